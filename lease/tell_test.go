package lease

import (
	"math"
	"slices"
	"testing"

	"weft/api"
)

func TestP11_3SnapshotRises(t *testing.T) {
	b := made(t, wide(0, 255, 64, 9))
	for i, n := range dice().Perm(256)[:64] {
		b.ok(acquire(i, x, nth(n)))
	}
	l := b.s.Snapshot().Leases
	if len(l) != 64 || !slices.IsSortedFunc(l, func(x, y api.Lease) int { return int(int64(x.Subnet.Addr) - int64(y.Subnet.Addr)) }) {
		t.Errorf("%+v", l)
	}
	for range 20 {
		if again := b.s.Snapshot().Leases; !slices.Equal(l, again) {
			t.Fatalf("%+v, then %+v", l, again)
		}
	}
}

func TestP11_3SnapshotOfNow(t *testing.T) {
	b := made(t, config())
	b.ok(acquire(0, x, nth(2)), tick(2), acquire(3, y, noWish), acquire(1, y, noWish), renew(0, nth(2)), tick(1))
	snap := b.s.Snapshot()
	if snap.Rev != 3 || snap.Now != 3 || !slices.Equal(snap.Leases, []api.Lease{held(1, y, nth(1), 7, 3), held(0, x, nth(2), 7, 1), held(3, y, nth(9), 7, 2)}) {
		t.Errorf("Snapshot() = %+v", snap)
	}
}

// isHeld asks for the holder of an address.
func (b both) isHeld(a api.Addr, want api.Lease, e api.Errno) {
	b.t.Helper()
	if l, f := b.holder(a); l != want || f != e {
		b.t.Fatalf("Holder(%d) = %+v, %d, want %+v, %d", a, l, f, want, e)
	}
}

func TestP11_3Holder(t *testing.T) {
	b := made(t, config())
	for _, a := range []api.Addr{0, 10 << 24, nth(1).Addr, nth(9).Addr, math.MaxUint32} {
		b.isHeld(a, none, api.ErrNone)
	}
	b.ok(acquire(0, x, nth(1)), acquire(1, y, nth(2)), acquire(3, x, noWish), tick(1), renew(1, nth(2)))
	l0, l1, l3 := held(0, x, nth(1), 5, 1), held(1, y, nth(2), 6, 2), held(3, x, nth(9), 5, 3)
	for _, p := range []struct {
		low  api.Addr
		want api.Lease
	}{{nth(1).Addr, l0}, {nth(2).Addr, l1}, {nth(9).Addr, l3}} {
		for _, i := range []api.Addr{0, 1, 2, 127, 128, 254, 255} {
			b.isHeld(p.low+i, p.want, api.OK)
		}
	}
	for _, a := range []api.Addr{0, nth(1).Addr - 1, nth(3).Addr, nth(9).Addr - 1, nth(10).Addr, nth(1).Addr + 1<<31, math.MaxUint32} {
		b.isHeld(a, none, api.ErrNone)
	}
	b.ok(release(0))
	b.isHeld(nth(1).Addr+7, none, api.ErrNone)
	b.ok(tick(4))
	b.isHeld(nth(9).Addr, none, api.ErrNone)
	b.isHeld(nth(2).Addr, l1, api.OK)
	b.ok(tick(1))
	b.isHeld(nth(2).Addr, none, api.ErrNone)
}

// Subnets of other lengths, at the network's ends.
func TestP11_3HolderAtTheEnds(t *testing.T) {
	for sublen := 17; sublen <= 30; sublen++ {
		c := wide(0, 0, 2, 3)
		width := api.Addr(1) << (32 - sublen)
		c.SubnetLen, c.Max = sublen, 10<<24+1<<16-width
		b := made(t, c)
		b.ok(acquire(0, x, noWish), acquire(1, x, api.Prefix{Addr: c.Max, Len: sublen}))
		first, end := held(0, x, api.Prefix{Addr: 10 << 24, Len: sublen}, 5, 1), held(1, x, api.Prefix{Addr: c.Max, Len: sublen}, 5, 2)
		b.has(first, end)
		b.isHeld(10<<24-1, none, api.ErrNone)
		b.isHeld(10<<24, first, api.OK)
		b.isHeld(10<<24+width-1, first, api.OK)
		b.isHeld(c.Max+width-1, end, api.OK)
		b.isHeld(c.Max+width, none, api.ErrNone)
	}
}

// Every from and limit over logs of several bounds, as they fill up and run over.
func TestP11_4AllWatches(t *testing.T) {
	for _, log := range []int{1, 2, 3, 7, 256} {
		b := made(t, wide(1, 2, 2, log))
		for i := range 12 {
			for from := int64(-2); from <= int64(i)+2; from++ {
				for limit := -1; limit <= 13; limit++ {
					b.watch(from, limit)
				}
			}
			b.do(acquire(0, who{pub: api.Addr(i)}, noWish))
		}
	}
}

func TestP11_4Errors(t *testing.T) {
	b := made(t, config())
	b.tells(0, 1, api.OK)
	b.tells(1, 1, api.ErrFuture)
	b.tells(1, 0, api.ErrArg)  // and ErrFuture
	b.tells(-1, 1, api.ErrArg) // and none else
	b.tells(-1, 0, api.ErrArg)
	for i := range 5 {
		b.ok(acquire(0, who{pub: api.Addr(i)}, noWish))
	}
	for _, from := range []int64{math.MinInt64, -1 << 40, -2, -1} {
		for _, limit := range []int{math.MinInt, -1, 0, 1, math.MaxInt} {
			b.tells(from, limit, api.ErrArg)
		}
	}
	for _, limit := range []int{math.MinInt, -1, 0} {
		for _, from := range []int64{0, 1, 2, 5, 6, math.MaxInt64} {
			b.tells(from, limit, api.ErrArg) // and ErrCompacted, ErrFuture
		}
	}
	for _, from := range []int64{6, 7, 1 << 40, 1<<40 + 1, math.MaxInt64 - 1, math.MaxInt64} {
		b.tells(from, 1, api.ErrFuture)
		b.tells(from, math.MaxInt, api.ErrFuture)
	}
	for _, limit := range []int{1, 3, math.MaxInt} {
		b.tells(0, limit, api.ErrCompacted)
		b.tells(1, limit, api.ErrCompacted) // 2 is the one ahead of the oldest that is kept
		b.tells(5, limit, api.OK)
	}
}

func TestP11_4Limits(t *testing.T) {
	b := made(t, config())
	var events []api.Event
	for i := range 5 {
		w := who{pub: api.Addr(i)}
		b.ok(acquire(0, w, noWish))
		events = append(events, added(held(0, w, nth(1), 5, int64(i)+1)))
	}
	b.tells(2, 1, api.OK, events[2])
	b.tells(2, 2, api.OK, events[2:4]...)
	b.tells(2, 3, api.OK, events[2:]...)
	b.tells(2, 4, api.OK, events[2:]...)
	b.tells(2, math.MaxInt, api.OK, events[2:]...)
	b.tells(3, 1, api.OK, events[3])
	b.tells(3, 9, api.OK, events[3:]...)
	b.tells(4, 1, api.OK, events[4])
	b.tells(4, 9, api.OK, events[4])
	b.tells(5, 9, api.OK)
}

// A log of one, and the longest.
func TestP11_4Bounds(t *testing.T) {
	b := made(t, wide(1, 1, 1, 1))
	b.ok(acquire(0, x, noWish))
	b.tells(0, 9, api.OK, added(held(0, x, nth(1), 5, 1)))
	b.ok(release(0))
	b.tells(0, 9, api.ErrCompacted)
	b.tells(1, 9, api.OK, removed(2, held(0, x, nth(1), 5, 1)))
	b.ok(acquire(0, x, noWish))
	b.tells(1, 9, api.ErrCompacted)
	b.tells(2, 9, api.OK, added(held(0, x, nth(1), 5, 3)))
	b.tells(3, 9, api.OK)

	b = made(t, wide(1, 1, 1, 256))
	for i := range 256 {
		b.do(acquire(0, who{pub: api.Addr(i)}, noWish))
	}
	if l, e := b.watch(0, 999); len(l) != 256 || e != api.OK {
		t.Errorf("%d events, %d", len(l), e)
	}
	b.do(acquire(0, who{pub: 256}, noWish))
	b.tells(0, 1, api.ErrCompacted)
	if l, e := b.watch(1, 999); len(l) != 256 || e != api.OK || l[0].Rev != 2 || l[255].Rev != 257 {
		t.Errorf("%d events, %d", len(l), e)
	}
}

// An event tells the lease as it was, whatever became of it.
func TestP11_4EventsStayAsTheyWere(t *testing.T) {
	c := config()
	c.Log = 9
	b := made(t, c)
	b.ok(acquire(0, x, nth(2)))
	one := added(held(0, x, nth(2), 5, 1))
	b.tells(0, 9, api.OK, one)
	b.ok(tick(2), renew(0, nth(2)))
	b.tells(0, 9, api.OK, one)
	b.ok(acquire(0, x, noWish), tick(1), acquire(0, y, noWish))
	two := added(held(0, y, nth(2), 8, 2))
	b.tells(0, 9, api.OK, one, two)
	b.ok(tick(1), renew(0, nth(2)))
	b.tells(0, 9, api.OK, one, two)
	b.ok(release(0))
	three := removed(3, held(0, y, nth(2), 9, 2))
	b.tells(0, 9, api.OK, one, two, three)
	b.ok(acquire(0, x, nth(1)))
	four := added(held(0, x, nth(1), 9, 4))
	b.tells(0, 9, api.OK, one, two, three, four)
	b.ok(tick(9))
	b.tells(0, 9, api.OK, one, two, three, four, removed(5, held(0, x, nth(1), 9, 4)))
}

// One Tick makes more events than the log keeps: the last ones stay.
func TestP11_4TickRunsOver(t *testing.T) {
	b := made(t, wide(1, 6, 6, 2))
	for h := range 6 {
		b.ok(acquire(h, x, nth(6-h)))
	}
	b.is(tick(5), api.OK, none, 12, 5)
	b.tells(9, 9, api.ErrCompacted)
	b.tells(10, 9, api.OK, removed(11, held(1, x, nth(5), 5, 2)), removed(12, held(0, x, nth(6), 5, 1)))
}

package lease

import (
	"math"
	"testing"

	"weft/api"
)

func TestP11_2TickOfNothing(t *testing.T) {
	b := made(t, config())
	for _, n := range []int64{-1, -2, math.MinInt64} {
		b.refused(api.ErrArg, tick(n))
	}
	b.is(tick(0), api.OK, none, 0, 0)
	b.is(tick(1), api.OK, none, 0, 1)
	b.refused(api.ErrArg, tick(-1))
	b.is(tick(1<<40), api.OK, none, 0, 1<<40+1)
	b.is(tick(api.Never-1<<40-2), api.OK, none, 0, api.Never-1)
	b.is(tick(0), api.OK, none, 0, api.Never-1)
	b.is(tick(2), api.OK, none, 0, api.Never)
	b.is(tick(api.Never), api.OK, none, 0, api.Never)
	b.is(tick(0), api.OK, none, 0, api.Never)
	b.refused(api.ErrArg, tick(-1))
}

// A lease ends at its tick, neither ahead of it nor behind.
func TestP11_2EndsAtItsTick(t *testing.T) {
	for _, ttl := range []int64{2, 3, 5, 1 << 40} {
		c := config()
		c.TTL = ttl
		b := made(t, c)
		b.ok(tick(3), acquire(0, x, noWish))
		l := held(0, x, nth(1), 3+ttl, 1)
		b.is(tick(ttl-1), api.OK, none, 1, 2+ttl)
		b.is(tick(0), api.OK, none, 1, 2+ttl)
		b.has(l)
		b.is(tick(1), api.OK, none, 2, 3+ttl)
		b.has()
		b.tells(1, 9, api.OK, removed(2, l))
		b.is(tick(0), api.OK, none, 2, 3+ttl)
	}
}

// Several run out in one Tick: by Until, those of one Until by their subnets, not by their hosts or by when they were made.
func TestP11_2OrderOfEnds(t *testing.T) {
	b := made(t, wide(1, 9, 6, 20))
	b.ok(acquire(0, x, nth(9)), acquire(1, x, nth(3)), acquire(5, x, nth(5)))
	b.ok(tick(1), acquire(2, x, nth(4)), acquire(3, y, nth(1)), acquire(4, x, nth(8)))
	b.ok(renew(1, nth(3)), tick(1), renew(3, nth(1)))
	b.is(tick(50), api.OK, none, 12, 52)
	b.tells(6, 9, api.OK,
		removed(7, held(5, x, nth(5), 5, 3)), removed(8, held(0, x, nth(9), 5, 1)),
		removed(9, held(1, x, nth(3), 6, 2)), removed(10, held(2, x, nth(4), 6, 4)), removed(11, held(4, x, nth(8), 6, 6)),
		removed(12, held(3, y, nth(1), 7, 5)))
	b.has()
}

// All hosts at once, with one Until: all orders of hosts, and the greatest number.
func TestP11_2OrderOfSubnets(t *testing.T) {
	r := dice()
	for range 30 {
		b := made(t, wide(0, 99, 64, 256))
		wishes := r.Perm(100)
		for h := range 64 {
			b.do(acquire(h, x, nth(wishes[h])))
		}
		b.is(tick(5), api.OK, none, 128, 5)
		events, _ := b.watch(64, 999)
		for i, e := range events {
			if i > 0 && events[i-1].Lease.Subnet.Addr >= e.Lease.Subnet.Addr {
				t.Fatalf("%+v ahead of %+v", events[i-1], e)
			}
		}
	}
}

// The order holds in the upper half of the addresses too.
func TestP11_2OrderInTheUpperHalf(t *testing.T) {
	c := wide(1, 2, 4, 9)
	c.Network, c.SubnetLen, c.First, c.Min, c.Max = api.Prefix{Addr: 128 << 24, Len: 8}, 30, 1<<24, 128<<24, 128<<24+8
	b := made(t, c)
	b.ok(acquire(0, x, api.Prefix{Addr: 128<<24 + 8, Len: 30}), acquire(1, x, noWish))
	b.is(tick(5), api.OK, none, 4, 5)
	b.tells(2, 9, api.OK, removed(3, held(1, x, api.Prefix{Addr: 128 << 24, Len: 30}, 5, 2)), removed(4, held(0, x, api.Prefix{Addr: 128<<24 + 8, Len: 30}, 5, 1)))
}

// At the end of time a lease has Until Never, and goes at the next Tick.
func TestP11_2AtNever(t *testing.T) {
	b := made(t, config())
	b.ok(acquire(0, x, noWish))
	b.is(tick(api.Never), api.OK, none, 2, api.Never)
	b.is(acquire(1, x, nth(2)), api.OK, held(1, x, nth(2), api.Never, 3), 3, api.Never)
	b.is(acquire(0, x, noWish), api.OK, held(0, x, nth(1), api.Never, 4), 4, api.Never)
	b.is(renew(1, nth(2)), api.OK, held(1, x, nth(2), api.Never, 3), 4, api.Never)
	b.is(acquire(1, x, noWish), api.OK, held(1, x, nth(2), api.Never, 3), 4, api.Never)
	b.has(held(0, x, nth(1), api.Never, 4), held(1, x, nth(2), api.Never, 3))
	b.is(tick(0), api.OK, none, 6, api.Never)
	b.tells(4, 9, api.OK, removed(5, held(0, x, nth(1), api.Never, 4)), removed(6, held(1, x, nth(2), api.Never, 3)))
	b.has()
	b.is(acquire(3, y, noWish), api.OK, held(3, y, nth(9), api.Never, 7), 7, api.Never)
	b.is(tick(api.Never), api.OK, none, 8, api.Never)
}

// Short ahead of the end of time Until stops there; it goes when Now has come to it.
func TestP11_2NearNever(t *testing.T) {
	b := made(t, config())
	b.ok(tick(api.Never - 6))
	b.is(acquire(0, x, noWish), api.OK, held(0, x, nth(1), api.Never-1, 1), 1, api.Never-6)
	b.ok(tick(1))
	b.is(acquire(1, x, noWish), api.OK, held(1, x, nth(2), api.Never, 2), 2, api.Never-5)
	b.ok(tick(1))
	b.is(acquire(3, x, noWish), api.OK, held(3, x, nth(9), api.Never, 3), 3, api.Never-4)
	b.is(tick(2), api.OK, none, 3, api.Never-2)
	b.is(tick(1), api.OK, none, 4, api.Never-1)
	b.is(tick(0), api.OK, none, 4, api.Never-1)
	b.has(held(1, x, nth(2), api.Never, 2), held(3, x, nth(9), api.Never, 3))
	b.is(tick(1), api.OK, none, 6, api.Never)
	b.has()
}

// late is a store at so many revisions ahead of the last one: hosts 0 and 1 have leases till 7 and 8, now is 3; host 3 may have 10.0.9.0/24.
func late(t *testing.T, ahead int64) both {
	t.Helper()
	b := made(t, config())
	b.ok(acquire(0, x, noWish), acquire(1, x, noWish), tick(2), renew(0, nth(1)), tick(1), renew(1, nth(2)))
	return restored(t, config(), lateImage(b.s.Image(), last-ahead))
}

// lateImage is an image with another last revision, of a log of 3 that is full then.
func lateImage(img api.Image, rev int64) api.Image {
	img = moved(img, rev-img.Rev)
	gone := removed(rev-2, held(2, y, nth(1), 1, rev-3))
	img.Events = append([]api.Event{gone}, img.Events...)
	return img
}

func TestP11_2LastRevision(t *testing.T) {
	b := late(t, 0)
	l0, l1 := held(0, x, nth(1), 7, last-1), held(1, x, nth(2), 8, last)
	b.has(l0, l1)
	b.refused(api.ErrFull, acquire(3, x, noWish)) // its subnet is free, but no revision is
	b.refused(api.ErrFull, acquire(0, y, noWish))
	b.refused(api.ErrFull, acquire(0, who{pub: y.pub, mac: x.mac}, noWish))
	b.refused(api.ErrFull, acquire(0, who{pub: x.pub, mac: y.mac}, noWish))
	b.refused(api.ErrFull, release(0))
	b.refused(api.ErrLease, release(2))
	b.refused(api.ErrLease, renew(2, nth(1)))
	b.refused(api.ErrLease, renew(0, nth(2)))
	b.refused(api.ErrFull, tick(4))
	b.refused(api.ErrFull, tick(5))
	b.refused(api.ErrFull, tick(api.Never))
	b.has(l0, l1)
	b.is(tick(1), api.OK, none, last, 4)
	b.is(renew(0, nth(1)), api.OK, held(0, x, nth(1), 9, last-1), last, 4)
	b.is(tick(3), api.OK, none, last, 7)
	b.refused(api.ErrFull, tick(1))
	b.is(acquire(1, x, noWish), api.OK, held(1, x, nth(2), 12, last), last, 7)
	b.is(tick(1), api.OK, none, last, 8)
	b.is(tick(0), api.OK, none, last, 8)
	b.refused(api.ErrFull, tick(1))
	b.refused(api.ErrFull, acquire(3, x, nth(9)))
	b.tells(last-1, 9, api.OK, added(held(1, x, nth(2), 5, last)))
	b.tells(last, 9, api.OK)
	b.tells(last+1, 9, api.ErrFuture)
}

// One revision is left: a Tick of two ends is refused as a whole, a Tick of one is done, and then none.
func TestP11_2OneRevisionLeft(t *testing.T) {
	b := late(t, 1)
	b.refused(api.ErrFull, tick(5))
	b.is(tick(4), api.OK, none, last, 7)
	b.tells(last-1, 9, api.OK, removed(last, held(0, x, nth(1), 7, last-2)))
	b.refused(api.ErrFull, tick(1))
	b.refused(api.ErrFull, acquire(0, x, noWish))

	b = late(t, 1)
	b.is(acquire(3, y, noWish), api.OK, held(3, y, nth(9), 8, last), last, 3)
	b.refused(api.ErrFull, release(3))

	b = late(t, 1)
	b.is(acquire(0, y, noWish), api.OK, held(0, y, nth(1), 8, last), last, 3)
	b.refused(api.ErrFull, acquire(0, x, noWish))

	b = late(t, 1)
	b.is(release(0), api.OK, held(0, x, nth(1), 7, last-2), last, 3)
	b.refused(api.ErrFull, release(1))
	b.refused(api.ErrLease, release(0))
	b.refused(api.ErrFull, acquire(2, x, noWish))
}

func TestP11_2TwoRevisionsLeft(t *testing.T) {
	b := late(t, 2)
	b.is(tick(5), api.OK, none, last, 8)
	b.tells(last-2, 9, api.OK, removed(last-1, held(0, x, nth(1), 7, last-3)), removed(last, held(1, x, nth(2), 8, last-2)))
	b.is(tick(api.Never), api.OK, none, last, api.Never)
	b.refused(api.ErrFull, acquire(0, x, noWish))
}

// At the last revision a refused Acquire takes nothing out of the pool: seen in a store that is brought back below it.
func TestP11_2RefusedTakesNothing(t *testing.T) {
	b := late(t, 1)
	b.ok(release(0))
	b.refused(api.ErrFull, acquire(2, x, nth(1)))
	b.refused(api.ErrFull, acquire(2, x, noWish))
	b.refused(api.ErrFull, acquire(0, x, noWish))
	back := restored(t, config(), moved(b.s.Image(), -1000))
	back.is(acquire(2, x, noWish), api.OK, held(2, x, nth(1), 8, last-999), last-999, 3)
}

// What the chapter says of any time, by dice: at most one lease a host, no subnet twice, each one that may be had.
func TestP11_2AlwaysApart(t *testing.T) {
	r := dice()
	for range 300 {
		b := made(t, rolled(r))
		for range 60 {
			b.do(anyCmd(r, b.m))
			seen := map[int]int{}
			var last api.Prefix
			for i, l := range b.s.Snapshot().Leases {
				seen[l.Host]++
				if seen[l.Host] > 1 || i > 0 && last.Addr >= l.Subnet.Addr || !mayHave(b.m.c, l.Host, l.Subnet) {
					t.Fatalf("%+v", b.s.Snapshot())
				}
				last = l.Subnet
			}
		}
	}
}

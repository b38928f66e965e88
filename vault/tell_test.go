package vault

import (
	"bytes"
	"math"
	"slices"
	"testing"

	"weft/api"
)

// Behind Open the disk is what was handed in, torn ends and all: nothing is brought down.
func TestP13_4BehindOpen(t *testing.T) {
	whole := appended(plain(acquire(0, x, nth(1))), plain(tick(2)))
	anew := based(imageOf(full(config(), 2).Image()))
	for _, d := range []api.Disk{
		{}, {A: []byte{1}, B: []byte{2, 3}}, {A: make([]byte, 15), B: make([]byte, 15)}, whole, anew,
		{A: whole.A[:len(whole.A)-1]}, {A: whole.A[:46]}, {A: whole.A[:17]}, {A: whole.A[:16]}, {A: whole.A[:9]},
		{A: whole.A, B: anew.B}, {A: whole.A, B: anew.B[:len(anew.B)-1]}, {A: whole.A, B: anew.B[:16]}, {A: whole.A, B: anew.B[:7]},
		{B: whole.A}, {A: anew.B, B: whole.A[:3]},
	} {
		b := begun(t, config(), d)
		for range 3 {
			if e := b.v.Disk(); !sameDisk(e, d) {
				t.Errorf("P13.4: Disk = %x | %x behind Open(%x | %x)", e.A, e.B, d.A, d.B)
			}
			b.arm(9) // what is armed is not seen on the disk ahead of a write
		}
		b.arm(-1)
		b.do(release(3))
		if e := b.v.Disk(); !sameDisk(e, d) {
			t.Errorf("P13.4: Disk = %x | %x behind a refused command", e.A, e.B)
		}
		b.all(tick(0)).again()
	}
}

// Of a vault that is up the disk is what was synced; of one that is down what got down when the write tore, whatever is asked then.
func TestP13_4UpAndDown(t *testing.T) {
	for n := range 40 {
		b := begun(t, config(), api.Disk{})
		b.all(acquire(0, x, nth(1)))
		up := b.v.Disk()
		if b.v.Down() || len(up.A) != 45 {
			t.Fatalf("P13.4: %v, %d bytes", b.v.Down(), len(up.A))
		}
		b.arm(n)
		if b.v.Down() || !sameDisk(b.v.Disk(), up) {
			t.Fatalf("P13.4: armed with %d it is down, or another", n)
		}
		b.do(tick(2))
		down := b.v.Disk()
		if !b.v.Down() || len(down.A) != 45+min(n, 21) || !bytes.Equal(down.A[:45], up.A) || len(down.B) != 0 {
			t.Fatalf("P13.4: torn behind %d: %v, %x | %x", n, b.v.Down(), down.A, down.B)
		}
		for _, cmd := range append(nexts(), api.Cmd{}, tick(-1), acquire(-1, x, nth(1)), release(2)) {
			if a := b.do(cmd); a != (api.Answer{Err: api.ErrDown}) {
				t.Fatalf("P13.2: down: Do(%+v) = %+v", cmd, a)
			}
			b.arm(21)
			b.arm(-1)
		}
		if !b.v.Down() || !sameDisk(b.v.Disk(), down) {
			t.Fatalf("P13.4: torn behind %d, and later %x | %x", n, b.v.Disk().A, b.v.Disk().B)
		}
	}
}

func TestP13_5AsTheStore(t *testing.T) {
	b := begun(t, config(), api.Disk{})
	b.all(acquire(0, x, nth(1)), acquire(1, y, nth(2)), tick(2), release(0), acquire(3, x, nth(9)))
	want := []api.Lease{held(1, y, nth(2), 5, 2), held(3, x, nth(9), 7, 4)}
	if s, err := b.v.Snapshot(); err != api.OK || s.Rev != 4 || s.Now != 2 || !slices.Equal(s.Leases, want) {
		t.Errorf("P13.5: Snapshot = %+v, %d", s, err)
	}
	for _, row := range []struct {
		from  int64
		limit int
		first int64 // of the revisions
		count int
		want  api.Errno
	}{
		{0, 9, 0, 0, api.ErrCompacted}, {1, 9, 2, 3, api.OK}, {1, 2, 2, 2, api.OK}, {3, 1, 4, 1, api.OK}, {4, 1, 0, 0, api.OK}, {5, 1, 0, 0, api.ErrFuture},
		{5, 0, 0, 0, api.ErrArg}, {-1, 1, 0, 0, api.ErrArg}, {1, 0, 0, 0, api.ErrArg}, {1, -1, 0, 0, api.ErrArg}, {1, math.MaxInt, 2, 3, api.OK},
		{math.MaxInt64, 1, 0, 0, api.ErrFuture}, {math.MinInt64, 1, 0, 0, api.ErrArg}, {1, math.MinInt, 0, 0, api.ErrArg},
	} {
		events, err := b.v.Watch(row.from, row.limit)
		if err != row.want || len(events) != row.count || row.count > 0 && events[0].Rev != row.first {
			t.Errorf("P13.5: Watch(%d, %d) = %+v, %d", row.from, row.limit, events, err)
		}
	}
	for _, row := range []struct {
		a    api.Addr
		want api.Errno
		host int
	}{
		{nth(1).Addr, api.ErrNone, 0}, {nth(2).Addr, api.OK, 1}, {nth(2).Addr + 255, api.OK, 1}, {nth(9).Addr + 9, api.OK, 3},
		{nth(3).Addr, api.ErrNone, 0}, {0, api.ErrNone, 0}, {0xffffffff, api.ErrNone, 0},
	} {
		l, err := b.v.Holder(row.a)
		if err != row.want || l.Host != row.host || err != api.OK && l != (api.Lease{}) {
			t.Errorf("P13.5: Holder(%x) = %+v, %d", row.a, l, err)
		}
	}
	b.arm(0)
	b.check()
	b.do(tick(1))
	b.silent()
}

// Down goes ahead of what is wrong with the arguments.
func TestP13_5DownGoesFirst(t *testing.T) {
	b := begun(t, config(), api.Disk{})
	b.all(acquire(0, x, nth(1)))
	b.arm(maxArea)
	b.do(tick(9))
	for _, from := range []int64{math.MinInt64, -1, 0, 1, 2, 3, math.MaxInt64} {
		for _, limit := range []int{math.MinInt, -1, 0, 1, math.MaxInt} {
			if events, err := b.v.Watch(from, limit); events != nil || err != api.ErrDown {
				t.Errorf("P13.5: Watch(%d, %d) = %+v, %d", from, limit, events, err)
			}
		}
	}
	b.silent()
}

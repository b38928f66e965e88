package vault

import (
	"bytes"
	"math"
	"slices"
	"sync"
	"testing"

	"weft/api"
)

// The chapter's examples, step by step.
func TestP13_6Examples(t *testing.T) {
	b := begun(t, config(), api.Disk{})
	rev := func(b both, rev, now int64, leases int) {
		t.Helper()
		if s, err := b.v.Snapshot(); err != api.OK || s.Rev != rev || s.Now != now || len(s.Leases) != leases {
			t.Fatalf("P13.5: Snapshot = %+v, %d", s, err)
		}
	}
	rev(b, 0, 0, 0)
	if d := b.v.Disk(); len(d.A)+len(d.B) != 0 {
		t.Errorf("P13.4: %x | %x", d.A, d.B)
	}
	if a := b.do(acquire(0, x, nth(99))); a.Err != api.OK || a.Lease.Subnet != nth(1) || a.Rev != 1 {
		t.Errorf("P13.2: %+v", a)
	}
	d := b.v.Disk()
	if len(d.A) != 45 || !bytes.Equal(d.A[28:], unhex("01 00 0a 00 01 00 18 c0 00 02 01 02 00 00 00 00 01")) {
		t.Errorf("P13.2: %x", d.A)
	}
	if a := b.do(release(3)); a.Err != api.ErrLease || !sameDisk(b.v.Disk(), d) {
		t.Errorf("P13.2: %+v", a)
	}
	if err := b.arm(13); err != api.OK {
		t.Errorf("P13.3: %d", err)
	}
	if a := b.do(tick(2)); a != (api.Answer{Err: api.ErrDown}) || !b.v.Down() || len(b.v.Disk().A) != 58 {
		t.Errorf("P13.2: %+v", a)
	}
	if _, err := b.v.Snapshot(); err != api.ErrDown || b.do(tick(2)).Err != api.ErrDown || b.arm(-1) != api.ErrDown {
		t.Errorf("P13.5: %d", err)
	}
	b = b.again()
	rev(b, 1, 0, 1)
	if a := b.do(tick(2)); a.Err != api.OK || a.Now != 2 || len(b.v.Disk().A) != 66 {
		t.Errorf("P13.2: %+v", a)
	}
	b.arm(21)
	if a := b.do(release(0)); a.Err != api.ErrDown || len(b.v.Disk().A) != 66+14 {
		t.Errorf("P13.2: %+v", a)
	}
	rev(b.again(), 2, 2, 0)
	b = begun(t, config(), api.Disk{})
	b.times(16, tick(0)).all(tick(1))
	if d := b.v.Disk(); len(d.A) != 16+16*21 || len(d.B) != 16+12+21 || !bytes.Equal(d.B[28:], imageOf(api.Image{Now: 1})) {
		t.Errorf("P13.2: %x | %x", d.A, d.B)
	}
	refuses(t, "06", config(), based([]byte{6}), api.ErrState)
	refuses(t, "03 00", config(), based([]byte{3, 0}), api.ErrState)
}

// room is bytes with spare room behind them, which is written to.
func room(b []byte) (whole, part []byte) {
	whole = joined(b, []byte("spare room that is nobody's business, and enough of it for a record"))
	return whole, whole[:len(b)]
}

// fill writes over bytes and their spare room.
func fill(b []byte, with byte) {
	b = b[:cap(b)]
	for i := range b {
		b[i] = with
	}
}

// The disk that is handed in is not changed and not kept, its spare room neither; nor is the configuration.
func TestP13_7HandedIn(t *testing.T) {
	for name, build := range states(t) {
		d := build().v.Disk()
		wholeA, a := room(d.A)
		wholeB, bb := room(d.B)
		wasA, wasB := bytes.Clone(wholeA), bytes.Clone(wholeB)
		c := config()
		c.Reserved = append(c.Reserved, api.Reserve{Host: 1, Subnet: nth(7)})[:1]
		m, _ := opened(config(), d)
		v, err := Open(c, api.Disk{A: a, B: bb})
		if err != api.OK {
			t.Fatalf("P13.1: %s: %d", name, err)
		}
		b := both{t, v, m}
		b.check()
		b.all(tick(1), acquire(0, x, nth(2))).times(16, tick(0))
		if !bytes.Equal(wholeA, wasA) || !bytes.Equal(wholeB, wasB) {
			t.Fatalf("P13.7: %s: the disk became %x | %x", name, wholeA, wholeB)
		}
		if full := c.Reserved[:2]; full[0] != config().Reserved[0] || full[1] != (api.Reserve{Host: 1, Subnet: nth(7)}) {
			t.Fatalf("P13.7: %s: the configuration became %+v", name, full)
		}
		fill(wholeA, 0xee)
		fill(wholeB, 0xdd)
		c.Reserved[0] = api.Reserve{Host: 2, Subnet: nth(2)}
		b.check()
		b.do(acquire(3, y, nth(2)))
		b.do(acquire(2, y, nth(2)))
		b.all(tick(1)).again()
	}
}

// Memory of the disk is not kept ahead of the first write either.
func TestP13_7HandedInAhead(t *testing.T) {
	d := appended(plain(acquire(0, x, nth(1))))
	m, _ := opened(config(), d)
	a := bytes.Clone(d.A)
	v, _ := Open(config(), api.Disk{A: a, B: a[:3]})
	clear(a)
	if e := v.Disk(); !bytes.Equal(e.A, d.A) || !bytes.Equal(e.B, d.A[:3]) {
		t.Errorf("P13.7: Disk = %x | %x", e.A, e.B)
	}
	tells(t, "P13.7", v, m.store)
}

// A disk that is refused stays as it was.
func TestP13_7Refused(t *testing.T) {
	for _, d := range append(badDisks(), badRecords()...) {
		wholeA, a := room(d.A)
		wholeB, b := room(d.B)
		wasA, wasB := bytes.Clone(wholeA), bytes.Clone(wholeB)
		if v, err := Open(config(), api.Disk{A: a, B: b}); v != nil || err == api.OK {
			t.Fatalf("P13.1: %v, %d", v, err)
		}
		if !bytes.Equal(wholeA, wasA) || !bytes.Equal(wholeB, wasB) {
			t.Fatalf("P13.7: the disk became %x | %x", wholeA, wholeB)
		}
	}
}

// Disks that are answered are new memory, of a vault that is up and of one that is down.
func TestP13_7DisksAnswered(t *testing.T) {
	for name, build := range states(t) {
		for _, n := range []int{-1, 0, 5, 30, 70, maxArea} {
			b := build()
			b.arm(n)
			b.do(acquire(0, y, nth(1)))
			d, e := b.v.Disk(), b.v.Disk()
			fill(d.A, 'a')
			d.A = append(d.A, "more"...)
			if !bytes.Equal(d.B, e.B) {
				t.Fatalf("P13.7: %s: B became %x", name, d.B)
			}
			fill(d.B, 'b')
			d.B = append(d.B, "more"...)
			if !sameDisk(e, b.m.disk()) {
				t.Fatalf("P13.7: %s: another answer became %x | %x", name, e.A, e.B)
			}
			b.check()
			if n < 0 {
				early := b.v.Disk()
				was := api.Disk{A: bytes.Clone(early.A), B: bytes.Clone(early.B)}
				b.times(35, tick(0))
				if !sameDisk(early, was) {
					t.Fatalf("P13.7: %s: an earlier answer became %x | %x", name, early.A, early.B)
				}
			}
			b.again()
		}
	}
}

// Snapshots and events that are answered are new memory.
func TestP13_7ListsAnswered(t *testing.T) {
	for name, build := range states(t) {
		b := build()
		b.do(acquire(0, x, nth(2)))
		s, _ := b.v.Snapshot()
		r, _ := b.v.Snapshot()
		from := max(0, s.Rev-3)
		e, _ := b.v.Watch(from, 9)
		f, _ := b.v.Watch(from, 9)
		if len(s.Leases) == 0 || len(e) == 0 {
			t.Fatalf("%s: nothing to write over", name)
		}
		leases, events := slices.Clone(r.Leases), slices.Clone(f)
		for i := range s.Leases[:cap(s.Leases)] {
			s.Leases[:cap(s.Leases)][i] = api.Lease{Host: 77}
		}
		for i := range e[:cap(e)] {
			e[:cap(e)][i] = api.Event{Rev: 77}
		}
		_ = append(s.Leases, api.Lease{Host: 78})
		_ = append(e, api.Event{Rev: 78})
		if !slices.Equal(r.Leases, leases) || !slices.Equal(f, events) {
			t.Fatalf("P13.7: %s: another answer became %+v, %+v", name, r, f)
		}
		b.check()
		b.times(20, tick(1))
		if !slices.Equal(r.Leases, leases) || !slices.Equal(f, events) {
			t.Fatalf("P13.7: %s: an earlier answer became %+v, %+v", name, r, f)
		}
		b.again()
	}
}

// Two vaults in turns, the one opened on the other's disk, know nothing of each other.
func TestP0_5InTurns(t *testing.T) {
	a := begun(t, config(), api.Disk{})
	b := begun(t, config(), api.Disk{})
	for i := range 80 {
		a.do(acquire(i%4, x, nth(1+i%2)))
		b.check()
		b.do(tick(int64(i % 3)))
		a.check()
		if i%9 == 4 {
			b.arm(i)
			a.check()
		}
		if i%13 == 7 {
			a, b = b.again(), a.again()
		}
		if i%17 == 3 {
			b = a.again()
		}
		if a.v.Down() {
			a = a.again()
		}
		if b.v.Down() {
			b = b.again()
		}
	}
	a.again()
	b.again()
}

// Of two on one disk each goes on for itself.
func TestP13_7OneDisk(t *testing.T) {
	for name, build := range states(t) {
		d := build().v.Disk()
		a, b, c := begun(t, config(), d), begun(t, config(), d), begun(t, config(), d)
		a.all(tick(1), acquire(0, x, nth(2)))
		b.check()
		b.all(acquire(3, y, nth(9))).times(18, tick(0))
		a.check()
		if !sameDisk(c.v.Disk(), d) {
			t.Fatalf("P13.7: %s: the disk of a third became %x | %x", name, c.v.Disk().A, c.v.Disk().B)
		}
		c.arm(0)
		c.do(tick(1))
		if a.v.Down() || b.v.Down() {
			t.Fatalf("P13.7: %s: another went down", name)
		}
		a.all(tick(0)).again()
		b.all(tick(0)).again()
	}
}

// Vaults at the same time answer as one alone does.
func TestP0_5AtTheSameTime(t *testing.T) {
	d := begun(t, config(), api.Disk{}).all(acquire(0, x, nth(1))).times(12, tick(0)).v.Disk()
	c := config()
	var group sync.WaitGroup
	for k := range 8 {
		group.Go(func() {
			v, _ := Open(c, d)
			m, _ := opened(config(), d)
			for i := range 60 {
				cmd := acquire(i%4, y, nth(1+(i+k)%2))
				if i%3 == 0 {
					cmd = tick(int64(k % 3))
				}
				if i == 50 {
					v.Arm(k)
					m.arm(k)
				}
				if a, want := v.Do(cmd), m.do(cmd); a != want {
					t.Errorf("P0.5: Do(%+v) = %+v, want %+v", cmd, a, want)
				}
				if !sameDisk(v.Disk(), m.disk()) || v.Down() != m.down {
					t.Errorf("P0.5: behind %+v the disk is another", cmd)
				}
			}
		})
	}
	group.Wait()
}

// Calls in another order that change nothing make no difference, whatever they are asked.
func TestP0_5Questions(t *testing.T) {
	a, b := begun(t, config(), api.Disk{}), begun(t, config(), api.Disk{})
	for i := range 40 {
		cmd := nexts()[i%len(nexts())]
		a.v.Snapshot()
		a.v.Watch(int64(i-3), i-1)
		a.v.Holder(nth(i).Addr)
		a.v.Disk()
		a.v.Down()
		if x, y := a.do(cmd), b.do(cmd); x != y {
			t.Fatalf("P0.5: Do(%+v) = %+v and %+v", cmd, x, y)
		}
	}
	if !sameDisk(a.v.Disk(), b.v.Disk()) {
		t.Error("P0.5: the disks are not the same")
	}
}

// No call panics, whatever it is given.
func TestP0_1Anything(t *testing.T) {
	roll := dice()
	numbers := []int64{math.MinInt64, -1 << 32, -256, -1, 0, 1, 2, 3, 4, 5, 255, 256, 1 << 20, 1<<20 + 1, 1 << 40, math.MaxInt64 - 1, math.MaxInt64}
	any := func() int64 { return numbers[roll.Intn(len(numbers))] }
	for range 200 {
		b := begun(t, config(), api.Disk{})
		for range 40 {
			b.do(api.Cmd{
				Kind: int(any()), Host: int(any()), Subnet: api.Prefix{Addr: api.Addr(any()), Len: int(any())},
				Pub: api.Addr(any()), MAC: api.MAC{byte(any())}, N: any(),
			})
			b.v.Watch(any(), int(any()))
			b.v.Holder(api.Addr(any()))
			if roll.Intn(6) == 0 {
				b.arm(int(any()))
			}
		}
		b.again()
	}
}

// Records of any bytes are opened or refused as the model does it.
func TestP13_1AnyRecords(t *testing.T) {
	roll := dice()
	sound := []func() []byte{
		func() []byte { return plain(acquire(roll.Intn(5), y, nth(roll.Intn(4)))) },
		func() []byte { return plain(renew(roll.Intn(4), nth(roll.Intn(3)))) },
		func() []byte { return plain(release(roll.Intn(4))) },
		func() []byte { return plain(tick(int64(roll.Intn(4)))) },
		func() []byte { return imageOf(full(config(), roll.Intn(4)).Image()) },
	}
	good := 0
	for range 4000 {
		var recs [][]byte
		for i := range roll.Intn(5) {
			rec := sound[roll.Intn(4)]()
			if i == 0 && roll.Intn(2) == 0 {
				rec = sound[4]()
			}
			if roll.Intn(6) == 0 {
				rec[roll.Intn(len(rec))] ^= byte(1 << roll.Intn(8))
			}
			recs = append(recs, rec)
		}
		d := based(recs...)
		if len(recs) > 1 && roll.Intn(2) == 0 {
			d = appended(recs...)
		}
		m, want := opened(config(), d)
		v, err := Open(config(), d)
		if err != want || (v == nil) != (err != api.OK) {
			t.Fatalf("P13.1: Open of the records %x = %v, %d, want %d", recs, v, err, want)
		}
		if err == api.OK {
			good++
			b := both{t, v, m}
			b.check()
			b.do(acquire(1, x, nth(2)))
		}
	}
	if good < 400 || good > 3600 {
		t.Errorf("%d of 4000 were opened", good)
	}
}

// A nil list is the same as an empty one.
func TestP0_4Nil(t *testing.T) {
	c, e := config(), config()
	c.Reserved, e.Reserved = nil, []api.Reserve{}
	a, b := begun(t, c, api.Disk{}), begun(t, e, api.Disk{A: []byte{}, B: []byte{}})
	for _, cmd := range nexts() {
		if x, y := a.do(cmd), b.do(cmd); x != y {
			t.Errorf("P0.4: Do(%+v) = %+v and %+v", cmd, x, y)
		}
	}
	if !sameDisk(a.v.Disk(), b.v.Disk()) {
		t.Error("P0.4: the disks are not the same")
	}
}

// Many commands: the time for one does not grow with all that was, nor does the disk.
func TestP0_1Many(t *testing.T) {
	v, _ := Open(config(), api.Disk{})
	for i := range 50000 {
		if a := v.Do(acquire(i%2, who{pub: api.Addr(i)}, api.Prefix{})); a.Err != api.OK {
			t.Fatalf("P13.2: %+v", a)
		}
	}
	if d := v.Disk(); len(d.A) > 1000 || len(d.B) > 1000 {
		t.Errorf("P13.2: %d and %d bytes", len(d.A), len(d.B))
	}
	if w, err := Open(config(), v.Disk()); err != api.OK {
		t.Errorf("P13.6: %d", err)
	} else if s, _ := w.Snapshot(); s.Rev != 50000 {
		t.Errorf("P13.6: %+v", s)
	}
}

package journal

import (
	"bytes"
	"slices"
	"sync"
	"testing"

	"weft/api"
)

// The chapter's examples, step by step.
func TestP12_9Examples(t *testing.T) {
	two := unhex("77656674 00000001 00000000 46525b30, 00000002 9e83486d fea22a16 6162, 00000000 00000000 26568693")
	one := unhex("77656674 00000002 0000000d 7f435d5d, 00000001 06b9df6f 85cee8f4 63")
	b := open(t, api.Disk{})
	b.is(16, 16)
	if e, f := b.tryAdd([]byte("ab")), b.tryAdd([]byte{}); e != api.OK || f != api.OK {
		t.Fatalf("Append = %d, %d", e, f)
	}
	b.is(42, 42)
	b.lies(99, two, nil)
	b.lies(29, two[:29], nil)
	c := b.again(29)
	c.is(16, 0)
	if len(c.m.recs) != 0 {
		t.Errorf("Crash(29): %q", c.m.recs)
	}
	b.lies(15, two[:15], nil)
	b.again(15).is(16, 16)
	b.sync()
	if err := b.tryRewrite([]byte("c")); err != api.OK {
		t.Fatalf("Rewrite = %d", err)
	}
	b.is(29, 29)
	b.lies(28, two, one[:28])
	if c := b.again(28); !same(c.m.recs, texts("ab", "")) {
		t.Errorf("Crash(28): %q", c.m.recs)
	}
	b.lies(29, two, one)
	c = b.again(29)
	c.is(29, 0)
	if !same(c.m.recs, texts("c")) {
		t.Errorf("Crash(29): %q", c.m.recs)
	}
	refused(t, "the last byte but one another", api.Disk{A: other(two, len(two)-2, 1)})
	c = open(t, api.Disk{A: two[:len(two)-1]})
	c.is(30, 0)
	if !same(c.m.recs, texts("ab")) {
		t.Errorf("without the last byte: %q", c.m.recs)
	}
	refused(t, "B is torn, and there is no whole area", api.Disk{B: one[:20]})
	refused(t, "sixteen bytes 0", api.Disk{A: make([]byte, 16)})
	if c = open(t, api.Disk{A: make([]byte, 15)}); len(c.m.recs) != 0 {
		t.Errorf("fifteen bytes 0: %q", c.m.recs)
	}
	if err := b.tryAdd(make([]byte, 65537)); err != api.ErrLong {
		t.Errorf("Append of 65537 bytes = %d", err)
	}
}

// Beside an error stands nothing else.
func TestP0_2ZeroBesideErrors(t *testing.T) {
	for _, d := range []api.Disk{
		{A: make([]byte, 16)}, {A: area(1, 0, texts("a")...), B: make([]byte, 16)}, {A: make([]byte, 16), B: area(1, 0, texts("a")...)},
		{A: head(1, 5)}, {B: head(1, 5)}, {A: head(1, 5), B: head(2, 5)}, {A: make([]byte, maxArea+1)},
	} {
		l, recs, err := Open(d)
		if l != nil || recs != nil || err != api.ErrDisk {
			t.Errorf("P0.2: Open(%.40x | %.40x) = %v, %q, %d", d.A, d.B, l, recs, err)
		}
	}
}

// Whatever is written to an argument behind a call is not seen, and the call itself writes to none of it, its spare room neither.
func TestP12_11DiskHandedIn(t *testing.T) {
	for _, d := range append(disks(), sound()...) {
		roomA, roomB := joined(d.A, run(40)), joined(d.B, run(50))
		wasA, wasB := bytes.Clone(roomA), bytes.Clone(roomB)
		given := api.Disk{A: roomA[:len(d.A)], B: roomB[:len(d.B)]}
		m, _ := opened(d)
		l, recs, err := Open(given)
		if err != api.OK {
			t.Fatalf("P12.1: %d", err)
		}
		b := both{t, l, m}
		play(b, "aresa")
		b.every()
		if !bytes.Equal(roomA, wasA) || !bytes.Equal(roomB, wasB) {
			t.Fatalf("P12.11: the disk became %x | %x", roomA, roomB)
		}
		kept := slices.Clone(recs)
		for i, r := range recs {
			kept[i] = bytes.Clone(r)
		}
		clear(roomA)
		clear(roomB)
		if !same(recs, kept) {
			t.Fatalf("P12.11: the records became %q", recs)
		}
		b.every()
		play(b, "rsa")
		b.every()
	}
}

// A refused disk stays as it was as well.
func TestP12_11RefusedDisk(t *testing.T) {
	room := joined(area(1, 0, texts("a", "b")...), run(30))
	for n := range len(room) {
		was := bytes.Clone(room)
		Open(api.Disk{A: room[:n], B: room[:n/2]})
		if !bytes.Equal(room, was) {
			t.Fatalf("P12.11: the disk became %x", room)
		}
	}
}

// One piece of memory may be both areas.
func TestP12_11OneForBoth(t *testing.T) {
	both := area(3, 0, texts("a", "b")...)
	was := bytes.Clone(both)
	b := open(t, api.Disk{A: both, B: both})
	play(b, "arasrrae")
	b.every()
	if !bytes.Equal(both, was) {
		t.Errorf("P12.11: the disk became %x", both)
	}
}

func TestP12_11RecordsHandedIn(t *testing.T) {
	b := fresh(t)
	room := run(60)
	rec := room[10:30]
	b.add(rec)
	b.rewrite(rec, room[:5], rec)
	if !bytes.Equal(room, run(60)) {
		t.Fatalf("P12.11: the record became %x", room)
	}
	list := [][]byte{rec, room[:7], room[50:]}
	full := append(list, []byte("spare"))[:3]
	b.rewrite(full...)
	if !bytes.Equal(room, run(60)) || string(full[:4][3]) != "spare" || len(full[1]) != 7 {
		t.Fatalf("P12.11: the list became %x", full[:4])
	}
	clear(room)
	full[0], full[1] = nil, []byte("another")
	b.every()
	b.sync()
	b.add([]byte("next")).every()
}

// fill writes over bytes and their spare room.
func fill(b []byte, with byte) {
	b = b[:cap(b)]
	for i := range b {
		b[i] = with
	}
}

func TestP12_11RecordsAnswered(t *testing.T) {
	d := api.Disk{A: area(3, 2, texts("ab", "", "cde", "f", "", "ghi")...), B: area(2, 0, texts("x")...)}
	want := texts("ab", "", "cde", "f", "", "ghi")
	for i := range want {
		l, recs, _ := Open(d)
		again, others, _ := Open(d)
		fill(recs[i], 'z')
		recs[i] = append(recs[i][:0], "more than there was room for"...)
		for j := range recs {
			if j != i && !bytes.Equal(recs[j], want[j]) {
				t.Errorf("P12.11: record %d became %q when %d was written to", j, recs[j], i)
			}
		}
		_ = append(recs[:1], []byte("over"))
		if !same(others, want) {
			t.Errorf("P12.11: another answer became %q", others)
		}
		for _, x := range []*Log{l, again} {
			if d2 := x.Crash(0); !bytes.Equal(d2.A, d.A) || !bytes.Equal(d2.B, d.B) {
				t.Errorf("P12.11: the disk became %x | %x", d2.A, d2.B)
			}
		}
	}
}

func TestP12_11DisksAnswered(t *testing.T) {
	for _, d := range disks() {
		b := open(t, d)
		play(b, "asre")
		for keep := 0; keep <= b.m.dirty(); keep++ {
			x, y := b.l.Crash(keep), b.l.Crash(keep)
			want := b.m.crash(keep)
			fill(x.A, 'a')
			x.A = append(x.A, run(99)...)
			if !bytes.Equal(x.B, want[1]) {
				t.Fatalf("P12.11: B became %x", x.B)
			}
			fill(x.B, 'b')
			x.B = append(x.B, run(99)...)
			if !bytes.Equal(y.A, want[0]) || !bytes.Equal(y.B, want[1]) {
				t.Fatalf("P12.11: another answer became %x | %x", y.A, y.B)
			}
			b.crash(keep)
		}
		early := b.l.Crash(b.m.dirty())
		was := b.m.crash(b.m.dirty())
		play(b, "sasraesa")
		if !bytes.Equal(early.A, was[0]) || !bytes.Equal(early.B, was[1]) {
			t.Fatalf("P12.11: an earlier answer became %x | %x", early.A, early.B)
		}
		b.every()
	}
}

// A nil list is the same as an empty one.
func TestP0_4Nil(t *testing.T) {
	x, y := open(t, api.Disk{}), open(t, api.Disk{A: []byte{}, B: []byte{}})
	for _, b := range []both{x, y} {
		b.every()
	}
	x.add(nil).rewrite([][]byte(nil)...).rewrite(nil, nil).add(nil)
	y.add([]byte{}).rewrite([][]byte{}...).rewrite([]byte{}, []byte{}).add([]byte{})
	p, q := x.l.Crash(999), y.l.Crash(999)
	if !bytes.Equal(p.A, q.A) || !bytes.Equal(p.B, q.B) {
		t.Errorf("P0.4: %x | %x and %x | %x", p.A, p.B, q.A, q.B)
	}
	x.every()
	y.every()
}

// Two journals in turns know nothing of each other, though they were opened on the same disk.
func TestP0_5InTurns(t *testing.T) {
	for _, d := range disks() {
		x, y := open(t, d), open(t, d)
		for i, act := range "araserasnae" {
			play(x, string(act))
			y.check()
			play(y, string("esaranaesra"[i]))
			x.check()
		}
		x.every()
		y.every()
	}
}

// Journals at the same time answer as one alone does.
func TestP0_5AtTheSameTime(t *testing.T) {
	var group sync.WaitGroup
	for _, d := range disks() {
		for range 4 {
			group.Go(func() {
				l, _, _ := Open(d)
				m, _ := opened(d)
				for i := range 50 {
					rec := run(i)
					l.Append(rec)
					m.add(rec)
					if i%7 == 0 {
						l.Rewrite(rec, nil)
						m.rewrite(rec, nil)
					}
					if i%5 == 0 {
						l.Sync()
						m.sync()
					}
					got, want := l.Crash(i), m.crash(i)
					if !bytes.Equal(got.A, want[0]) || !bytes.Equal(got.B, want[1]) {
						t.Errorf("P0.5: Crash(%d) = %x | %x, want %x | %x", i, got.A, got.B, want[0], want[1])
					}
				}
			})
		}
	}
	group.Wait()
}

// Many small records, each synced, and many generations: the time for one does not grow with all that was.
func TestP0_1Many(t *testing.T) {
	l, _, _ := Open(api.Disk{})
	for i := range 20000 {
		if err := l.Append(run(i % 30)); err != api.OK {
			t.Fatalf("P12.3: %d", err)
		}
		l.Sync()
	}
	for i := range 20000 {
		if err := l.Rewrite(run(i%30), nil); err != api.OK {
			t.Fatalf("P12.4: %d", err)
		}
		if i%100 == 0 {
			l.Sync()
		}
	}
	l.Sync()
	if _, recs, err := Open(l.Crash(0)); err != api.OK || !same(recs, [][]byte{run(19999 % 30), nil}) {
		t.Errorf("P12.9: %x, %d", recs, err)
	}
}

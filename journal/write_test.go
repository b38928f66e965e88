package journal

import (
	"bytes"
	"math"
	"testing"

	"weft/api"
)

// limits is the greatest records, and one that fills the area to its last byte but for so many.
func limits(less int) [][]byte {
	recs := make([][]byte, 15)
	for i := range recs {
		recs[i] = run(maxRecord)
	}
	return append(recs, run(maxArea-16-15*(12+maxRecord)-12-less))
}

func TestP12_3Append(t *testing.T) {
	b := fresh(t)
	b.add([]byte("ab")).is(30, 30)
	b.add(nil).is(42, 42)
	b.add([]byte{}).is(54, 54)
	b.add([]byte{0}).is(67, 67)
	b.add(run(300)).is(379, 379)
	b.lies(379, area(1, 0, []byte("ab"), nil, nil, []byte{0}, run(300)), nil)
	b.every()
	b.sync().is(379, 0)
	b.add([]byte("z")).is(392, 13)
	b.every()
	b.sync()
	b.lies(0, area(1, 0, []byte("ab"), nil, nil, []byte{0}, run(300), []byte("z")), nil)
	b.again(0).add([]byte("more")).is(408, 16)
}

// A frame's number goes on where the opened area's frames end, in the base and behind it.
func TestP12_3NumbersGoOn(t *testing.T) {
	d := api.Disk{B: area(77, 2, texts("a", "b", "c")...)}
	b := open(t, d).add([]byte("d"), []byte("e"))
	b.lies(26, nil, area(77, 2, texts("a", "b", "c", "d", "e")...))
	b.every()
	b.rewrite(texts("x", "y")...).add([]byte("z")).every()
	b.sync()
	b.lies(0, area(78, 2, texts("x", "y", "z")...), area(77, 2, texts("a", "b", "c", "d", "e")...))
}

func TestP12_3Lengths(t *testing.T) {
	for _, n := range []int{0, 1, 2, 255, 256, maxRecord - 1, maxRecord} {
		b := fresh(t)
		if err := b.tryAdd(run(n)); err != api.OK {
			t.Errorf("P12.3: Append of %d bytes = %d", n, err)
		}
		b.is(28+n, 28+n)
		b.again(28+n).is(28+n, 0)
		b.check()
	}
	for _, n := range []int{maxRecord + 1, maxRecord + 2, maxArea, 3 * maxArea} {
		b := fresh(t).add([]byte("first"))
		if err := b.tryAdd(run(n)); err != api.ErrLong {
			t.Errorf("P12.3: Append of %d bytes = %d, want ErrLong", n, err)
		}
		b.is(33, 33)
		b.every()
	}
}

// Up to the area's last byte, and not a byte more.
func TestP12_3Full(t *testing.T) {
	b := fresh(t)
	for _, r := range limits(0)[:15] {
		b.add(r)
	}
	b.is(16+15*65548, 16+15*65548)
	for _, c := range []struct {
		n    int
		want api.Errno
	}{
		{maxRecord + 1, api.ErrLong},
		{maxRecord, api.ErrFull},
		{65330, api.ErrFull},
		{65329, api.ErrFull},
	} {
		if err := b.tryAdd(run(c.n)); err != c.want {
			t.Errorf("P12.3: Append of %d bytes = %d, want %d", c.n, err, c.want)
		}
	}
	b.is(16+15*65548, 16+15*65548)
	b.check()
	if err := b.tryAdd(run(65328)); err != api.OK {
		t.Errorf("P12.3: Append up to the last byte = %d", err)
	}
	b.is(maxArea, maxArea)
	b.check()
	for _, n := range []int{0, 1, maxRecord} {
		if err := b.tryAdd(run(n)); err != api.ErrFull {
			t.Errorf("P12.3: Append of %d bytes to a full area = %d", n, err)
		}
	}
	if err := b.tryAdd(run(maxRecord + 1)); err != api.ErrLong {
		t.Errorf("P12.3: both errors: %d, want ErrLong", err)
	}
	b.again(maxArea).is(maxArea, 0)
	b.rewrite([]byte("room again")).add(nil).is(50, maxArea+50)
	b.check()
}

// Room of less than twelve bytes is room for no record, not even an empty one.
func TestP12_3NearlyFull(t *testing.T) {
	for _, less := range []int{11, 12, 13} {
		d := api.Disk{A: area(4, 16, limits(less)...)}
		for n := range 3 {
			want := api.OK
			if 12+n > less {
				want = api.ErrFull
			}
			l, _, _ := Open(d)
			if err := l.Append(run(n)); err != want {
				t.Errorf("P12.3: room for %d, Append of %d bytes = %d", less, n, err)
			}
			if end := l.Size(); want == api.ErrFull && end != maxArea-less {
				t.Errorf("P12.8: Size = %d", end)
			}
		}
	}
}

// The first byte that gets down behind a torn frame cuts it off.
func TestP12_3BehindTorn(t *testing.T) {
	first := area(6, 1, []byte("ab"))
	next := frame(6, 1, []byte("cdefgh"))
	for n := 1; n < len(next); n++ {
		for _, rec := range texts("", "x", "a record that is longer than the torn one") {
			d := api.Disk{A: joined(first, next[:n]), B: []byte("short")}
			b := open(t, d)
			b.is(30, 0)
			b.add(rec).is(42+len(rec), 12+len(rec))
			b.lies(0, d.A, d.B)
			b.lies(1, joined(first, []byte{0}), d.B)
			b.lies(12, joined(first, frame(6, 1, rec)[:12]), d.B)
			b.lies(99, joined(first, frame(6, 1, rec)), d.B)
			b.every()
			b.sync()
			b.lies(0, area(6, 1, []byte("ab"), rec), d.B)
			b.add([]byte("y")).every()
		}
	}
}

// A Rewrite leaves the torn frame where it lies.
func TestP12_4BehindTorn(t *testing.T) {
	torn := area(6, 0, []byte("ab"), []byte("cd"))[:43]
	b := open(t, api.Disk{A: torn, B: area(5, 0, []byte("old"))})
	b.is(30, 0)
	b.rewrite([]byte("new")).is(31, 31)
	b.every()
	b.sync()
	b.lies(0, torn, area(7, 1, []byte("new")))
	b.rewrite().every()
	b.sync()
	b.lies(0, head(8, 0), area(7, 1, []byte("new")))
}

func TestP12_4Rewrite(t *testing.T) {
	b := fresh(t).add(texts("a", "bc", "def")...).sync()
	old := area(1, 0, texts("a", "bc", "def")...)
	b.rewrite(texts("x")...).is(29, 29)
	b.every()
	b.lies(29, old, area(2, 1, []byte("x")))
	b.sync()
	b.add(nil).is(41, 12)
	b.every()
	b.rewrite().is(16, 28)
	b.every()
	b.lies(28, head(3, 0), area(2, 1, []byte("x"), nil))
	b.sync()
	b.lies(0, head(3, 0), area(2, 1, []byte("x"), nil))
	b.add(nil, nil).rewrite(texts("", "one", "", "two", "")...).is(82, 24+82)
	b.every()
	b.sync()
	b.lies(0, area(3, 0, nil, nil), area(4, 5, texts("", "one", "", "two", "")...))
}

// The first write of a new journal is its head: a Rewrite ahead of a Sync goes to B behind it.
func TestP12_4OfNewJournal(t *testing.T) {
	b := fresh(t).rewrite([]byte("first"))
	b.is(33, 49)
	b.every()
	b.lies(15, head(1, 0)[:15], nil)
	b.lies(17, head(1, 0), []byte{0x77})
	b.lies(49, head(1, 0), area(2, 1, []byte("first")))
	b.rewrite().is(16, 65)
	b.every()
	b.lies(50, []byte{0x77}, area(2, 1, []byte("first")))
	b.lies(65, head(3, 0), area(2, 1, []byte("first")))
}

// Many Rewrites and Appends without a Sync: each goes to the area that the one ahead of it left.
func TestP12_4WithoutSync(t *testing.T) {
	b := open(t, api.Disk{A: area(10, 1, texts("a", "b")...), B: area(9, 0, texts("old", "older")...)})
	b.rewrite(texts("c", "d")...).rewrite(texts("e")...)
	b.every()
	b.add([]byte("f")).rewrite(texts("g", "", "h")...).add(nil, []byte("i"))
	b.every()
	b.sync()
	b.lies(0, area(12, 1, texts("e", "f")...), area(13, 3, texts("g", "", "h", "", "i")...))
}

// The generation behind the last one is 0.
func TestP12_4Generations(t *testing.T) {
	for _, gen := range []uint32{0, 1, 1<<31 - 2, 1<<31 - 1, 1 << 31, 1<<32 - 3, 1<<32 - 1} {
		for current := range 2 {
			d := api.Disk{A: area(gen, 0, []byte("now"))}
			if current == 1 {
				d.A, d.B = d.B, d.A
			}
			b := open(t, d)
			for i := range 6 {
				b.rewrite(run(i)).every()
				b.add(run(i + 1)).every()
				if i%2 == 0 {
					b.sync()
				}
			}
			b = b.again(b.m.dirty())
			b.rewrite(texts("last")...).every()
		}
	}
	b := open(t, api.Disk{B: area(math.MaxUint32, 0, []byte("x"))}).rewrite([]byte("y")).sync()
	b.lies(0, area(0, 1, []byte("y")), area(math.MaxUint32, 0, []byte("x")))
}

func TestP12_4Long(t *testing.T) {
	b := fresh(t).add([]byte("stays")).sync().add([]byte("too"))
	long := run(maxRecord + 1)
	for _, recs := range [][][]byte{
		{long}, {nil, long}, {long, nil}, {[]byte("a"), long, []byte("b")}, {run(maxRecord), long}, {run(2 * maxArea)},
		append(limits(0), long), append([][]byte{long}, limits(0)...), append(append(limits(0), long), limits(0)...),
	} {
		if err := b.tryRewrite(recs...); err != api.ErrLong {
			t.Errorf("P12.4: Rewrite with a long record = %d, want ErrLong", err)
		}
		b.is(48, 15)
		b.every()
	}
	if err := b.tryRewrite(nil, run(maxRecord), nil); err != api.OK {
		t.Errorf("P12.4: Rewrite with the greatest record = %d", err)
	}
	b.check()
}

func TestP12_4Full(t *testing.T) {
	b := fresh(t).add([]byte("stays")).sync()
	for _, recs := range [][][]byte{
		limits(-1), append(limits(0), nil), append(limits(11), nil), append([][]byte{nil}, limits(0)...),
		append(limits(0), limits(0)...), make([][]byte, 87380+1),
	} {
		if err := b.tryRewrite(recs...); err != api.ErrFull {
			t.Errorf("P12.4: Rewrite of %d records = %d, want ErrFull", len(recs), err)
		}
		b.is(33, 0)
		b.check()
	}
	if err := b.tryRewrite(limits(0)...); err != api.OK {
		t.Errorf("P12.4: Rewrite up to the last byte = %d", err)
	}
	b.is(maxArea, maxArea)
	b.check()
	b.sync()
	b.again(0).is(maxArea, 0)
	if err := b.tryAdd(nil); err != api.ErrFull {
		t.Errorf("P12.3: Append behind it = %d", err)
	}
	if err := b.tryRewrite(append(limits(12), nil)...); err != api.OK {
		t.Errorf("P12.4: Rewrite up to the last byte with an empty record = %d", err)
	}
	b.is(maxArea, maxArea)
	b.check()
}

// As many empty records as an area has room for.
func TestP12_4ManyEmpty(t *testing.T) {
	b := fresh(t).sync()
	if err := b.tryRewrite(make([][]byte, 87380)...); err != api.OK {
		t.Errorf("P12.4: %d", err)
	}
	b.is(16+12*87380, 16+12*87380)
	if err := b.tryAdd(nil); err != api.ErrFull {
		t.Errorf("P12.3: %d", err)
	}
	b.crash(b.m.dirty())
	b.crash(b.m.dirty() - 1)
}

func TestP12_5Sync(t *testing.T) {
	b := fresh(t)
	b.sync().is(16, 0)
	b.lies(0, head(1, 0), nil)
	b.sync().is(16, 0)
	b.lies(0, head(1, 0), nil)
	b.add([]byte("ab")).sync().sync().is(30, 0)
	b.lies(9, area(1, 0, []byte("ab")), nil)
	b.rewrite([]byte("c")).add([]byte("d")).sync().is(42, 0)
	b.sync()
	b.lies(-1, area(1, 0, []byte("ab")), area(2, 1, texts("c", "d")...))
	b.add([]byte("e")).is(55, 13)
	b.every()
}

// A Sync of a journal that nothing was written to leaves the disk as it was, what is torn or short in it too.
func TestP12_5NothingWritten(t *testing.T) {
	for _, d := range []api.Disk{
		{A: joined(area(1, 0, []byte("ab")), []byte{1, 2, 3}), B: []byte("short")},
		{A: head(3, 9), B: area(2, 0, []byte("b"))},
	} {
		b := open(t, d).sync()
		b.lies(0, d.A, d.B)
		b.lies(math.MaxInt, d.A, d.B)
	}
}

func TestP12_6Keep(t *testing.T) {
	b := open(t, api.Disk{A: area(1, 0, []byte("a")), B: []byte("zz")}).add([]byte("b")).rewrite([]byte("c")).add([]byte("d"))
	b.is(42, 13+42)
	a, ab, c := area(1, 0, []byte("a")), area(1, 0, texts("a", "b")...), area(2, 1, texts("c", "d")...)
	for _, keep := range []int{math.MinInt, math.MinInt + 1, -1000, -1, 0} {
		b.lies(keep, a, []byte("zz"))
	}
	b.lies(1, ab[:30], []byte("zz"))
	b.lies(12, ab[:41], []byte("zz"))
	b.lies(13, ab, []byte("zz"))
	b.lies(14, ab, c[:1])
	b.lies(42, ab, c[:29])
	b.lies(43, ab, c[:30])
	b.lies(54, ab, c[:41])
	for _, keep := range []int{55, 56, 1000, 1 << 31, 1 << 32, math.MaxInt - 1, math.MaxInt} {
		b.lies(keep, ab, c)
	}
	b.every()
}

// Crash is a question: the journal goes on as if it had not been asked, whatever is done to the answer.
func TestP12_6Question(t *testing.T) {
	asked, silent := fresh(t), fresh(t)
	for i, rec := range texts("a", "bb", "", "cccc") {
		for keep := -1; keep < 70; keep++ {
			d := asked.l.Crash(keep)
			for j := range d.A {
				d.A[j] = 'x'
			}
			d.A, d.B = append(d.A, "yyyyyyyyyyyyyyyy"...), append(d.B, "zzzz"...)
		}
		if i == 2 {
			asked.sync()
			silent.sync()
			asked.rewrite(rec)
			silent.rewrite(rec)
		} else {
			asked.add(rec)
			silent.add(rec)
		}
		asked.every()
		x, y := asked.l.Crash(999), silent.l.Crash(999)
		if !bytes.Equal(x.A, y.A) || !bytes.Equal(x.B, y.B) {
			t.Fatalf("P12.6: %x | %x, want %x | %x", x.A, x.B, y.A, y.B)
		}
	}
}

// What is refused changes nothing, neither what is written nor what comes next.
func TestP12_8Refused(t *testing.T) {
	b := open(t, api.Disk{A: area(4, 16, limits(14)...), B: area(3, 0, []byte("old"))})
	tries := func() {
		t.Helper()
		size, dirty := b.l.Size(), b.l.Dirty()
		all := b.l.Crash(math.MaxInt)
		refusals := []api.Errno{b.tryAdd(run(maxRecord + 1)), b.tryRewrite(run(maxRecord + 1)), b.tryRewrite(limits(-1)...)}
		if size == maxArea-14 || size == maxArea {
			refusals = append(refusals, b.tryAdd(run(3)))
		}
		for _, err := range refusals {
			if err != api.ErrLong && err != api.ErrFull {
				t.Errorf("P12.8: %d", err)
			}
		}
		b.is(size, dirty)
		b.lies(math.MaxInt, all.A, all.B)
	}
	tries()
	b.add(run(2)).is(maxArea, 14)
	tries()
	b.every()
	b.rewrite([]byte("next")).is(32, 46)
	tries()
	b.add([]byte("more"))
	tries()
	b.every()
	b.sync()
	tries()
	b.lies(0, area(4, 16, append(limits(14), run(2))...), area(5, 1, texts("next", "more")...))
}

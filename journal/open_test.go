package journal

import (
	"bytes"
	"fmt"
	"testing"

	"weft/api"
)

// reads looks at what Open makes of an area that lies alone, once as A and once as B. want is nil if Open refuses it.
func reads(t *testing.T, what string, b []byte, want [][]byte, size int) {
	t.Helper()
	for _, d := range []api.Disk{{A: b}, {B: b}} {
		if want == nil {
			refused(t, what, d)
			continue
		}
		l, recs, err := Open(d)
		if err != api.OK || !same(recs, want) {
			t.Errorf("P12.1: %s: %.40x, %d, want %.40x", what, recs, err, want)
			continue
		}
		if l.Size() != size || l.Dirty() != 0 {
			t.Errorf("P12.7: %s: Size, Dirty = %d, %d, want %d, 0", what, l.Size(), l.Dirty(), size)
		}
		open(t, d)
	}
}

// An area that is too short for a head is none: over whatever lay in A a new journal begins.
func TestP12_1Short(t *testing.T) {
	full := area(7, 1, texts("abc", "de")...)
	for x := range 16 {
		for _, y := range []int{0, 1, 15} {
			d := api.Disk{A: full[:x], B: full[:y]}
			b := open(t, d)
			b.is(16, 16)
			b.every()
			b.lies(0, full[:x], full[:y])
			b.lies(1, []byte{0x77}, full[:y])
			b.lies(16, head(1, 0), full[:y])
		}
	}
}

func TestP12_1NewJournal(t *testing.T) {
	b := open(t, api.Disk{A: make([]byte, 15), B: bytes.Repeat([]byte{255}, 15)})
	b.is(16, 16)
	b.add([]byte("one")).is(31, 31)
	b.every()
	b.sync()
	b.lies(0, area(1, 0, []byte("one")), bytes.Repeat([]byte{255}, 15))
	b.rewrite([]byte("two")).every()
	b.sync()
	b.lies(0, area(1, 0, []byte("one")), area(2, 1, []byte("two")))
}

// A head is enough for a whole area without records; whatever stands in one byte of it is told.
func TestP12_1Head(t *testing.T) {
	for _, gen := range []uint32{0, 1, 2, 1 << 31, 1<<32 - 1} {
		h := head(gen, 0)
		reads(t, "a head alone", h, [][]byte{}, 16)
		for place := range h {
			for by := 1; by < 256; by++ {
				refused(t, fmt.Sprintf("byte %d of a head by %#x", place, by), api.Disk{A: other(h, place, byte(by))})
				refused(t, fmt.Sprintf("byte %d of a head by %#x", place, by), api.Disk{A: area(1, 0), B: other(h, place, byte(by))})
			}
		}
	}
	for place := range 4 {
		wrong := other([]byte("weft"), place, 0x20)
		reads(t, "a head with other first bytes and the right sum", summed(joined(wrong, words(1, 0))), nil, 0)
	}
	reads(t, "sixteen bytes 0", make([]byte, 16), nil, 0)
	reads(t, "a sum with its low byte first", joined([]byte("weft"), words(1, 0, 0x305b5246)), nil, 0)
}

// Lengths of the base: the frames end just there, or they do not.
func TestP12_1Base(t *testing.T) {
	recs := texts("abc", "", "de", "f")
	body := frames(3, recs...)
	ends := map[int]bool{0: true, 15: true, 27: true, 41: true, 54: true}
	for base := range len(body) + 1 {
		var want [][]byte
		if ends[base] {
			want = recs
		}
		reads(t, fmt.Sprintf("a base of %d", base), joined(head(3, uint32(base)), body), want, 16+len(body))
	}
	for _, base := range []uint32{55, 56, 1000, maxArea - 17, maxArea - 16, maxArea - 15, maxArea, 1 << 31, 1<<32 - 1, 1<<32 - 16} {
		reads(t, fmt.Sprintf("a base of %d", base), joined(head(3, base), body), nil, 0)
	}
}

// Beside a whole area it is to be seen whether one is torn (it does not matter) or spoilt.
func TestP12_1TornOrSpoilt(t *testing.T) {
	good := area(9, 0, texts("good")...)
	body := frames(3, texts("abc", "", "de")...)
	bad := other(body, 3, 1)
	for _, c := range []struct {
		what   string
		area   []byte
		spoilt bool
	}{
		{"a base behind the last byte", joined(head(3, uint32(len(body)+1)), body), false},
		{"a base far behind the last byte", joined(head(3, maxArea-16), body), false},
		{"a base of one byte too many", joined(head(3, maxArea-15), body), true},
		{"a base of all numbers", joined(head(3, 1<<32-1), body), true},
		{"a base of 1, and no byte behind the head", head(3, 1), false},
		{"a base of 12, and 11 bytes behind the head", joined(head(3, 12), body[:11]), false},
		{"a base that is not down, with a wrong frame", joined(head(3, uint32(len(bad)+1)), bad), false},
		{"a base that is down, with a wrong frame", joined(head(3, uint32(len(bad))), bad), true},
		{"a base inside a frame", joined(head(3, 14), body), true},
		{"a base of 1, and a frame", joined(head(3, 1), body), true},
		{"a base with a torn frame, all bytes there", joined(head(3, 20), body[:20]), true},
		{"a base with a torn frame's twelve bytes", joined(head(3, 12), frame(3, 0, []byte("abc"))[:12]), true},
		{"a base that ends inside the torn frame", joined(head(3, 17), body[:20]), true},
	} {
		for _, d := range []api.Disk{{A: good, B: c.area}, {A: c.area, B: good}} {
			if c.spoilt {
				refused(t, c.what, d)
				continue
			}
			b := open(t, d)
			if len(b.m.recs) != 1 || string(b.m.recs[0]) != "good" {
				t.Errorf("P12.1: %s: %q", c.what, b.m.recs)
			}
		}
		refused(t, c.what+", alone", api.Disk{A: c.area})
	}
}

// A frame of which some bytes got down: whatever they are, as long as the twelve are not all there.
func TestP12_1TornFrame(t *testing.T) {
	two := texts("ab", "cde")
	first := area(5, 1, two[0])
	next := frame(5, 1, two[1])
	for n := range len(next) {
		reads(t, fmt.Sprintf("%d bytes of a frame", n), joined(first, next[:n]), two[:1], 30)
	}
	reads(t, "a frame", joined(first, next), two, 45)
	for n := range 12 {
		reads(t, fmt.Sprintf("%d bytes 255", n), joined(first, bytes.Repeat([]byte{255}, n)), two[:1], 30)
		reads(t, fmt.Sprintf("%d bytes 0", n), joined(first, make([]byte, n)), two[:1], 30)
	}
	reads(t, "twelve bytes 0", joined(first, make([]byte, 12)), nil, 0)
	reads(t, "twelve bytes 255", joined(first, bytes.Repeat([]byte{255}, 12)), nil, 0)
	reads(t, "torn behind no record", joined(head(5, 0), frame(5, 0, two[0])[:13]), [][]byte{}, 16)
}

// The twelve bytes are there, and wrong: however many follow them, the area is spoilt.
func TestP12_1WrongTwelve(t *testing.T) {
	first := area(5, 0, []byte("ab"))
	next := frame(5, 1, []byte("cde"))
	for place := range 12 {
		for _, by := range []byte{1, 0x80, 0xff} {
			for n := 12; n <= len(next); n++ {
				reads(t, fmt.Sprintf("byte %d of %d by %#x", place, n, by), joined(first, other(next, place, by)[:n]), nil, 0)
			}
		}
	}
	for place := 12; place < len(next); place++ {
		reads(t, fmt.Sprintf("byte %d of a record", place-12), joined(first, other(next, place, 4)), nil, 0)
		torn := other(next, place, 4)[:len(next)-1]
		if place < len(torn) {
			reads(t, "a wrong byte of a record that is torn", joined(first, torn), texts("ab"), 30)
		}
	}
	wrongSum := joined(words(3, 17, sumOfWords(5, 1, 3, 17)), []byte("cde"))
	reads(t, "a frame that seals a wrong sum of its record", joined(first, wrongSum), nil, 0)
	reads(t, "the same, torn", joined(first, wrongSum[:14]), texts("ab"), 30)
}

// sumOfWords is the sum of numbers, as a frame's third number is.
func sumOfWords(list ...uint32) uint32 {
	return sumOf(words(list...))
}

// A length above the greatest record's is no length, though its frame is sealed.
func TestP12_1WrongLength(t *testing.T) {
	first := area(5, 0, []byte("ab"))
	for _, n := range []uint32{maxRecord + 1, maxRecord + 2, 1 << 20, 1 << 31, 1<<32 - 1, 1<<32 - 12} {
		seal := words(n, 0, sumOfWords(5, 1, n, 0))
		for _, behind := range []int{0, 1, 100, 66000} {
			reads(t, fmt.Sprintf("a record of %d", n), joined(first, seal, make([]byte, behind)), nil, 0)
		}
	}
	long := run(maxRecord)
	reads(t, "the greatest record", joined(first, frame(5, 1, long)), [][]byte{[]byte("ab"), long}, 30+12+maxRecord)
	reads(t, "the greatest record but a byte", joined(first, frame(5, 1, long)[:12+maxRecord-1]), texts("ab"), 30)
	reads(t, "the greatest record's twelve bytes", joined(first, frame(5, 1, long)[:12]), texts("ab"), 30)
	longer := run(maxRecord + 1)
	reads(t, "a byte more than the greatest record", joined(first, frame(5, 1, longer)), nil, 0)
}

// A frame is sealed to its area's generation and to its number there.
func TestP12_1Sealed(t *testing.T) {
	recs := texts("ab", "cd", "ef", "gh")
	h := head(5, 0)
	f := func(number uint32) []byte { return frame(5, number, recs[number]) }
	reads(t, "all in order", joined(h, f(0), f(1), f(2), f(3)), recs, 16+4*14)
	reads(t, "two changed places", joined(h, f(0), f(2), f(1), f(3)), nil, 0)
	reads(t, "the first two changed places", joined(h, f(1), f(0), f(2), f(3)), nil, 0)
	reads(t, "the first is gone", joined(h, f(1), f(2), f(3)), nil, 0)
	reads(t, "one is gone", joined(h, f(0), f(1), f(3)), nil, 0)
	reads(t, "the last is gone", joined(h, f(0), f(1), f(2)), recs[:3], 16+3*14)
	reads(t, "one stands twice", joined(h, f(0), f(0)), nil, 0)
	reads(t, "numbers from 1 on", joined(h, frame(5, 1, recs[0])), nil, 0)
	for _, gen := range []uint32{0, 4, 6, 5 << 8, 1<<32 - 5} {
		reads(t, "a frame of another generation", joined(h, f(0), frame(gen, 1, recs[1])), nil, 0)
	}
	reads(t, "the number is the next one's", joined(h, f(0), f(1), frame(5, 3, recs[2])), nil, 0)
}

// Areas of just MaxArea bytes, and of one more.
func TestP12_1Long(t *testing.T) {
	recs := make([][]byte, 15)
	for i := range recs {
		recs[i] = run(maxRecord)
	}
	recs = append(recs, run(maxArea-16-15*65548-12))
	full := area(1, 16, recs...)
	if len(full) != maxArea {
		t.Fatalf("%d bytes", len(full))
	}
	reads(t, "MaxArea bytes", full, recs, maxArea)
	reads(t, "MaxArea bytes, none in the base", area(1, 0, recs...), recs, maxArea)
	reads(t, "MaxArea bytes and one more", joined(area(1, 0, recs...), []byte{0}), nil, 0)
	reads(t, "MaxArea bytes but one", full[:maxArea-1], nil, 0)
	reads(t, "MaxArea bytes but one, none in the base", area(1, 0, recs...)[:maxArea-1], recs[:15], 16+15*65548)
	small := area(1, 0, []byte("a"))
	refused(t, "one byte too many in B", api.Disk{A: small, B: joined(area(1, 0, recs...), []byte{0})})
	refused(t, "bytes 0 in B", api.Disk{A: small, B: make([]byte, maxArea+1)})
	refused(t, "far too many bytes", api.Disk{A: make([]byte, 5*maxArea)})
	b := open(t, api.Disk{A: full})
	if b.tryAdd(nil) != api.ErrFull {
		t.Errorf("P12.3: Append to a full area")
	}
}

// sample is an area in a certain state.
type sample struct {
	state string
	bytes []byte
}

// samples are areas in all states.
func samples() []sample {
	one := area(8, 1, texts("ab", "c")...)
	list := []sample{
		{"short", nil}, {"short", []byte{}}, {"short", []byte{0x77}}, {"short", one[:15]}, {"short", make([]byte, 15)},
		{"spoilt", make([]byte, 16)}, {"spoilt", other(one, 0, 1)}, {"spoilt", other(one, 13, 1)}, {"spoilt", head(8, maxArea-15)},
		{"spoilt", other(one, 18, 1)}, {"spoilt", other(one, 29, 1)}, {"spoilt", other(one, 42, 1)}, {"spoilt", joined(head(8, 13), one[16:])},
		{"spoilt", make([]byte, maxArea+1)}, {"spoilt", joined(one, make([]byte, 12))},
		{"torn", one[:16]}, {"torn", one[:29]}, {"torn", head(8, maxArea-16)}, {"torn", joined(head(8, 100), make([]byte, 99))},
	}
	for _, gen := range []uint32{0, 1, 2, 8, 9, 1<<31 - 1, 1 << 31, 1<<31 + 1, 1<<31 + 8, 1<<32 - 2, 1<<32 - 1} {
		list = append(list, sample{"whole", area(gen, 0, words(gen))}, sample{"whole", area(gen, 1, words(gen), nil)}, sample{"whole", joined(area(gen, 0, words(gen)), []byte{1, 2})})
	}
	return list
}

// Every pair of states of the two areas.
func TestP12_1Pairs(t *testing.T) {
	for _, x := range samples() {
		for _, y := range samples() {
			d := api.Disk{A: x.bytes, B: y.bytes}
			what := fmt.Sprintf("%s %.40x | %s %.40x", x.state, x.bytes, y.state, y.bytes)
			states := x.state + " " + y.state
			switch states {
			case "short short":
				b := open(t, d)
				b.is(16, 16)
				b.lies(16, head(1, 0), y.bytes)
			case "whole short", "whole torn":
				opensAs(t, d, 0)
			case "short whole", "torn whole":
				opensAs(t, d, 1)
			case "whole whole":
				ahead := told(x.bytes).gen - told(y.bytes).gen
				if ahead < 1<<31 {
					opensAs(t, d, 0)
				} else {
					opensAs(t, d, 1)
				}
			default:
				refused(t, what, d)
			}
		}
	}
}

// opensAs looks whether a disk is opened with a certain area as the current one, and whether nothing is written.
func opensAs(t *testing.T, d api.Disk, current int) {
	t.Helper()
	want := told([][]byte{d.A, d.B}[current])
	l, recs, err := Open(d)
	if err != api.OK || !same(recs, want.recs) || l.Size() != want.end || l.Dirty() != 0 {
		t.Fatalf("P12.1: Open(%x | %x) = %x, %d, want %x", d.A, d.B, recs, err, want.recs)
	}
	b := open(t, d)
	b.lies(99, d.A, d.B)
	b.add([]byte("next")).every()
	b.rewrite([]byte("new"), nil).every()
	b.sync()
	other := area(want.gen+1, 2, []byte("new"), nil)
	if d := b.l.Crash(0); !bytes.Equal([][]byte{d.A, d.B}[1-current], other) {
		t.Fatalf("P12.4: the other area is %x | %x, want %x", d.A, d.B, other)
	}
}

// Which of two generations is the newer one, by example.
func TestP12_1Newer(t *testing.T) {
	const half, most = 1 << 31, 1<<32 - 1
	for _, c := range []struct {
		a, b uint32
		want int
	}{
		{1, 1, 0}, {0, 0, 0}, {most, most, 0}, {half, half, 0},
		{2, 1, 0}, {1, 2, 1}, {1, 0, 0}, {0, 1, 1},
		{most, most - 1, 0}, {most - 1, most, 1}, {0, most, 0}, {most, 0, 1}, {1, most, 0}, {most, 1, 1},
		{half, 0, 1}, {0, half, 1}, {half - 1, 0, 0}, {0, half - 1, 1}, {half + 1, 0, 1}, {0, half + 1, 0},
		{5 + half, 5, 1}, {5, 5 + half, 1}, {4 + half, 5, 0}, {5, 4 + half, 1}, {6 + half, 5, 1}, {5, 6 + half, 0},
		{half, 1, 0}, {1, half, 1}, {half, most, 1}, {most, half, 0},
	} {
		d := api.Disk{A: area(c.a, 0, []byte("A")), B: area(c.b, 0, []byte("B"))}
		_, recs, err := Open(d)
		if err != api.OK || !same(recs, texts([]string{"A", "B"}[c.want])) {
			t.Errorf("P12.1: generations %d and %d: %q, %d", c.a, c.b, recs, err)
		}
		opensAs(t, d, c.want)
	}
}

// Any bytes behind a head, and heads with any numbers: Open answers what the chapter says.
func TestP12_1AnyBytes(t *testing.T) {
	r := dice()
	for range 20000 {
		recs := make([][]byte, r.Intn(4))
		for i := range recs {
			recs[i] = run(r.Intn(5))
		}
		gen := uint32(r.Intn(3))
		b := area(gen, r.Intn(len(recs)+1), recs...)
		switch r.Intn(6) {
		case 0:
			b = b[:r.Intn(len(b)+1)]
		case 1:
			b = joined(b, run(r.Intn(20)))
		case 2:
			b = other(b, r.Intn(len(b)), byte(r.Intn(256)))
		case 3:
			b = joined(head(gen, uint32(r.Intn(40))), b[16:])
		case 4:
			b = joined(b[:16], b[min(len(b), 16+r.Intn(20)):])
		}
		d := api.Disk{A: b, B: area(1, 0, []byte("B"))}
		if r.Intn(2) == 0 {
			d = api.Disk{A: b}
		}
		if r.Intn(2) == 0 {
			d.A, d.B = d.B, d.A
		}
		if _, err := opened(d); err != api.OK {
			refused(t, fmt.Sprintf("%x | %x", d.A, d.B), d)
		} else {
			open(t, d)
		}
	}
}

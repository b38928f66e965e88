package journal

import (
	"bytes"
	"fmt"
	"math/rand"
	"testing"

	"weft/api"
)

// disks are disks that can be opened, of all kinds.
func disks() []api.Disk {
	return []api.Disk{
		{},
		{A: []byte("wef"), B: bytes.Repeat([]byte{7}, 15)},
		{A: area(1, 0)},
		{B: area(1<<32-1, 1, texts("a", "b")...)},
		{A: area(5, 2, texts("a", "b", "c")...), B: area(4, 0, texts("old")...)},
		{A: area(5, 0, texts("old")...), B: area(6, 1, texts("new")...)},
		{A: joined(area(9, 0, texts("a")...), frame(9, 1, []byte("torn"))[:15]), B: head(10, 50)},
		{A: head(10, 50), B: joined(area(9, 1, texts("a", "b")...), []byte{0, 0})},
		{A: area(1<<32-1, 0, texts("last")...), B: area(0, 0, texts("first")...)},
		{A: area(3, 0, texts("same A")...), B: area(3, 0, texts("same B")...)},
		{A: area(3, 0, texts("half A")...), B: area(3+1<<31, 0, texts("half B")...)},
	}
}

// play does a script: a letter an act, over records that differ.
func play(b both, script string) {
	b.t.Helper()
	for i, act := range script {
		rec := run(i%4 + i)
		switch act {
		case 'a':
			b.add(rec)
		case 'e':
			b.add(nil)
		case 'r':
			b.rewrite(rec, nil, []byte("kept"))
		case 'n':
			b.rewrite()
		case 's':
			b.sync()
		}
	}
}

// Scripts of all Appends, Rewrites and Syncs up to a length, over all kinds of disks, at every keep.
func TestP12_9EveryScript(t *testing.T) {
	const acts = "aens"
	for _, d := range disks() {
		for n := range 256 {
			script := []byte{acts[n%4], acts[n/4%4], acts[n/16%4], acts[n/64%4]}
			b := open(t, d)
			play(b, string(script))
			b.every()
		}
	}
}

func TestP12_9LongScripts(t *testing.T) {
	for _, script := range []string{"aaaa", "arar", "rrrr", "narasarn", "aesaesaera", "rsrsrsrarr", "aaasaaaraaasaaa", "nnnnsnnn", "earneasrea", "ssss", ""} {
		for _, d := range disks() {
			b := open(t, d)
			play(b, script)
			b.every()
		}
	}
}

// What was recovered at any keep goes on: behind it the same holds again.
func TestP12_9Again(t *testing.T) {
	for _, d := range disks() {
		b := open(t, d)
		play(b, "asrae")
		for keep := 0; keep <= b.m.dirty(); keep++ {
			c := b.again(keep)
			play(c, "ar")
			for _, second := range []int{0, 1, 11, 12, 13, c.m.dirty() - 17, c.m.dirty() - 1} {
				e := c.again(second)
				play(e, "ea")
				e.every()
			}
		}
	}
}

// The words of the promise, without the model: the records behind the last call whose bytes all got down.
func TestP12_9ByHand(t *testing.T) {
	l, _, _ := Open(api.Disk{})
	l.Append([]byte("one"))
	l.Sync()
	l.Append([]byte("two"))
	l.Rewrite([]byte("three"))
	l.Append(nil)
	for keep, dirty := 0, l.Dirty(); keep <= dirty; keep++ {
		want := texts("one")
		if keep >= 15 {
			want = texts("one", "two")
		}
		if keep >= 15+33 {
			want = texts("three")
		}
		if keep >= 15+33+12 {
			want = texts("three", "")
		}
		if _, recs, err := Open(l.Crash(keep)); err != api.OK || !same(recs, want) {
			t.Errorf("P12.9: keep %d: %q, %d, want %q", keep, recs, err, want)
		}
	}
}

// A generation of greatest records, torn at some places of it.
func TestP12_9Great(t *testing.T) {
	b := fresh(t).add([]byte("small")).sync()
	b.rewrite(limits(40)...)
	r := dice()
	for range 20 {
		b.crash(r.Intn(b.m.dirty()))
	}
	b.add([]byte("behind"))
	for n := range 19 {
		b.crash(b.m.dirty() - n)
	}
}

// sound are disks as P12.10 speaks of them: nothing torn, the current area not short.
func sound() []api.Disk {
	return []api.Disk{
		{A: area(1, 0)},
		{A: area(1, 0, texts("ab", "")...)},
		{B: area(2, 1, texts("c")...)},
		{A: area(1, 0, texts("ab", "")...), B: area(2, 1, texts("c", "de", "", "fgh")...)},
		{A: area(3, 2, texts("ab", "x", "yz")...), B: area(2, 4, texts("c", "de", "", "fgh")...)},
		{A: area(0, 1, texts("a")...), B: area(1<<32-1, 0, texts("b", "cd")...)},
		{A: []byte("short"), B: area(7, 0, texts("b", "cd")...)},
	}
}

// Every byte of every area that is not short, changed to every other byte.
func TestP12_10EveryByte(t *testing.T) {
	for i, d := range sound() {
		b := open(t, d).sync()
		lies := b.l.Crash(0)
		for at, bytes := range [][]byte{lies.A, lies.B} {
			if len(bytes) < 16 {
				continue
			}
			for place := range bytes {
				for by := 1; by < 256; by++ {
					bad := lies
					*[]*[]byte{&bad.A, &bad.B}[at] = other(bytes, place, byte(by))
					refused(t, fmt.Sprintf("P12.10: disk %d, area %d, byte %d by %#x", i, at, place, by), bad)
				}
			}
		}
	}
}

// The same where the journal itself wrote the disk.
func TestP12_10Written(t *testing.T) {
	for _, d := range disks() {
		b := open(t, d)
		play(b, "asrasnaeaaras")
		if a := b.l.Crash(0); told(a.A).state != "whole" || told(a.B).state != "whole" {
			t.Fatalf("%x | %x", a.A, a.B)
		}
		lies := b.l.Crash(0)
		for place := range lies.A {
			refused(t, fmt.Sprintf("P12.10: byte %d of A", place), api.Disk{A: other(lies.A, place, 1), B: lies.B})
		}
		for place := range lies.B {
			refused(t, fmt.Sprintf("P12.10: byte %d of B", place), api.Disk{A: lies.A, B: other(lies.B, place, 0x80)})
		}
	}
}

// framesOf is an area's frames one by one.
func framesOf(b []byte) [][]byte {
	var list [][]byte
	r := told(b)
	for i, rec := range r.recs {
		list = append(list, frame(r.gen, uint32(i), rec))
	}
	return list
}

// Frames that are taken out, or change places, even where they hold the same record.
func TestP12_10Frames(t *testing.T) {
	for _, recs := range [][][]byte{texts("a", "bb", "", "dddd", "e"), texts("x", "x", "x", "x", "x"), texts("", "", "", "", "")} {
		for inBase := range len(recs) + 1 {
			good := area(4, inBase, recs...)
			list := framesOf(good)
			h := good[:16]
			for i := range list {
				out := joined(h, joined(list[:i]...), joined(list[i+1:]...))
				if i < inBase || i < len(list)-1 {
					refused(t, fmt.Sprintf("P12.10: frame %d of %d is out", i, len(list)), api.Disk{B: out})
				}
				if i >= inBase && i < len(list)-1 {
					refused(t, fmt.Sprintf("P12.10: frame %d is out, beside a whole area", i), api.Disk{A: area(3, 0), B: out})
				}
				for j := range i {
					changed := joined(list...)
					parts := framesOf(good)
					parts[i], parts[j] = parts[j], parts[i]
					if swapped := joined(parts...); !bytes.Equal(swapped, changed) {
						refused(t, fmt.Sprintf("P12.10: frames %d and %d", i, j), api.Disk{B: joined(h, swapped)})
						refused(t, fmt.Sprintf("P12.10: frames %d and %d, beside a whole area", i, j), api.Disk{A: area(3, 0), B: joined(h, swapped)})
					}
				}
			}
		}
	}
}

// A base that is shorter than its head says is torn, not spoilt: beside a whole area it does not count.
func TestP12_10ShortBase(t *testing.T) {
	good := area(4, 3, texts("a", "bb", "c")...)
	for n := 16; n < len(good); n++ {
		b := open(t, api.Disk{A: area(3, 0, texts("old")...), B: good[:n]})
		if !same(b.m.recs, texts("old")) {
			t.Errorf("P12.10: %d bytes: %q", n, b.m.recs)
		}
		refused(t, "P12.10: the same alone", api.Disk{B: good[:n]})
	}
}

// step does one call by dice.
func step(b both, r *rand.Rand) {
	b.t.Helper()
	rec := run(r.Intn(9))
	if r.Intn(200) == 0 {
		rec = run(maxRecord - 1 + r.Intn(3))
	}
	switch r.Intn(8) {
	case 0, 1, 2:
		b.tryAdd(rec)
	case 3:
		b.tryRewrite(rec)
	case 4:
		recs := make([][]byte, r.Intn(5))
		for i := range recs {
			recs[i] = run(r.Intn(7))
		}
		b.tryRewrite(append(recs, rec)[:len(recs)]...)
	case 5:
		b.sync()
	case 6:
		b.crash(r.Intn(b.m.dirty()+3) - 1)
	case 7:
		b.check()
	}
}

// Steps by dice, against the model; now and then the plug is pulled.
func TestP0_1AnySteps(t *testing.T) {
	r := dice()
	for range 150 {
		b := open(t, disks()[r.Intn(len(disks()))])
		for range 40 {
			step(b, r)
			if r.Intn(15) == 0 {
				b = b.again(r.Intn(b.m.dirty() + 1))
			}
		}
		b.check()
	}
}

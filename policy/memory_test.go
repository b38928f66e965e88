package policy

import (
	"slices"
	"testing"
	"unsafe"

	"weft/api"
)

// P0.3: what is handed in is not kept, what is answered is the caller's own.

// A text over bytes that are written over behind Parse: nothing of it is kept.
func TestP0_3TextIsNotKept(t *testing.T) {
	r := dice()
	for range 300 {
		source := anyPolicy(r, 1+r.Intn(20))
		b := []byte(source)
		p, line, err := Parse(unsafe.String(unsafe.SliceData(b), len(b)))
		if string(b) != source {
			t.Fatal("P0.3: Parse changes its text")
		}
		m, wantLine, want := modelParse(source)
		if line != wantLine || err != want {
			t.Fatalf("P22.2: Parse(%q) = %d, %d", source, line, err)
		}
		for i := range b {
			b[i] = 'x'
		}
		if err != api.OK {
			continue
		}
		kept := both{t, p, m}
		kept.text()
		for range 20 {
			kept.judge(anyMatch(r))
		}
		if m.cells() < 1000 {
			kept.check()
		}
	}
}

// scribble writes over a list, its spare room too, and appends to it.
func scribble(list []int) {
	for i := range list[:cap(list)] {
		list[:cap(list)][i] = -7
	}
	_ = append(list, -8)
}

func TestP0_3ListsAreTheCallersOwn(t *testing.T) {
	for n := range 30 {
		list := []string{"chain in", "accept"}
		for range n {
			list = append(list, "drop")
		}
		b := taken(t, list...)
		one, _ := b.r.Dead()
		two, _ := b.r.Dead()
		was := slices.Clone(two)
		scribble(one)
		if !slices.Equal(two, was) || len(was) != n {
			t.Fatalf("P0.3: another list became %v, it was %v", two, was)
		}
		two = append(two, 99)
		b.check()
		scribble(two)
		if three := b.dead(); !slices.Equal(three, was) {
			t.Fatalf("P22.5: Dead = %v", three)
		}
	}
}

// Texts that were answered lie apart from each other and from what is kept.
func TestP0_3TextsAreTheCallersOwn(t *testing.T) {
	b := taken(t, web)
	one, two := b.r.Text(), b.r.Text()
	if unsafe.StringData(one) == unsafe.StringData(two) {
		t.Error("P0.3: two answers share their bytes")
	}
	bytes := unsafe.Slice(unsafe.StringData(one), len(one))
	for i := range bytes {
		bytes[i] = 'x'
	}
	if two != b.m.text() {
		t.Errorf("P0.3: another text became %q", two)
	}
	b.check()
}

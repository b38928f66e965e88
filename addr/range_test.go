package addr

import (
	"slices"
	"testing"

	"weft/api"
)

func TestP1_6ValidAndSpan(t *testing.T) {
	for _, a := range someAddrs() {
		for _, n := range someLens() {
			p := api.Prefix{Addr: a, Len: n}
			from, to, ok := modelSpan(p)
			if Valid(p) != ok {
				t.Errorf("P1.6: Valid(%v) = %v", p, !ok)
			}
			lo, hi, err := Span(p)
			if uint64(lo) != from || uint64(hi) != to || err != modelErr(p) {
				t.Errorf("P1.6: Span(%v) = %d, %d, %d, want %d, %d, %d", p, lo, hi, err, from, to, modelErr(p))
			}
		}
	}
	if lo, hi, err := Span(prefix(10, 4, 0, 0, 14)); lo != quad(10, 4, 0, 0) || hi != quad(10, 7, 255, 255) || err != api.OK {
		t.Errorf("P1.6: Span of 10.4.0.0/14 = %d, %d, %d", lo, hi, err)
	}
	if lo, hi, err := Span(api.Prefix{}); lo != 0 || hi != top || err != api.OK {
		t.Errorf("P1.6: Span of all = %d, %d, %d", lo, hi, err)
	}
}

func TestP1_6Contains(t *testing.T) {
	for _, base := range someAddrs() {
		for _, n := range someLens() {
			p := api.Prefix{Addr: base, Len: n}
			from, to, ok := modelSpan(p)
			asked := append(someAddrs(), api.Addr(from), api.Addr(to), api.Addr(from-1), api.Addr(to+1), base)
			for _, a := range asked {
				want := ok && from <= uint64(a) && uint64(a) <= to
				if Contains(p, a) != want {
					t.Errorf("P1.6: Contains(%v, %d) = %v", p, a, !want)
				}
			}
		}
	}
}

// windows are where the covers and merges are held against the model: both ends, the middle, and a place on no great border.
var windows = []api.Addr{0, top - 63, 1<<31 - 32, quad(10, 0, 0, 16)}

func TestP1_7CoverModel(t *testing.T) {
	for _, base := range windows {
		for i := range 64 {
			for j := i; j < 64; j++ {
				wanted := make([]bool, 64)
				for k := i; k <= j; k++ {
					wanted[k] = true
				}
				lo, hi := base+api.Addr(i), base+api.Addr(j)
				want := modelList(base, wanted)
				if got := Cover(lo, hi); !slices.Equal(got, want) {
					t.Fatalf("P1.7: Cover(%d, %d) = %v, want %v", lo, hi, got, want)
				}
			}
		}
	}
}

func TestP1_7CoverEdges(t *testing.T) {
	for _, x := range []struct {
		lo, hi api.Addr
		want   []api.Prefix
	}{
		{quad(10, 0, 0, 1), quad(10, 0, 0, 6), []api.Prefix{prefix(10, 0, 0, 1, 32), prefix(10, 0, 0, 2, 31), prefix(10, 0, 0, 4, 31), prefix(10, 0, 0, 6, 32)}},
		{0, top, []api.Prefix{{}}},
		{0, 0, []api.Prefix{prefix(0, 0, 0, 0, 32)}},
		{top, top, []api.Prefix{prefix(255, 255, 255, 255, 32)}},
		{0, 1<<31 - 1, []api.Prefix{prefix(0, 0, 0, 0, 1)}},
		{1 << 31, top, []api.Prefix{prefix(128, 0, 0, 0, 1)}},
		{1<<31 - 1, 1 << 31, []api.Prefix{prefix(127, 255, 255, 255, 32), prefix(128, 0, 0, 0, 32)}},
		{1, 0, nil},
		{top, 0, nil},
		{quad(255, 0, 0, 0), quad(1, 0, 0, 0), nil},
	} {
		if got := Cover(x.lo, x.hi); !slices.Equal(got, x.want) {
			t.Errorf("P1.7: Cover(%d, %d) = %v, want %v", x.lo, x.hi, got, x.want)
		}
	}
}

// TestP1_7CoverLong holds long covers, too long for the model, to what makes them the least: no gap, no two that would be one, the ends.
func TestP1_7CoverLong(t *testing.T) {
	for _, lo := range someAddrs() {
		for _, hi := range someAddrs() {
			list := Cover(lo, hi)
			if lo > hi {
				if len(list) != 0 {
					t.Errorf("P1.7: Cover(%d, %d) = %v, want none", lo, hi, list)
				}
				continue
			}
			checkLeast(t, list, uint64(lo), uint64(hi))
		}
	}
	if list := Cover(1, top-1); len(list) != 62 {
		t.Errorf("P1.7: Cover(1, 2^32 - 2) has %d, want 62", len(list))
	}
}

func checkLeast(t *testing.T, list []api.Prefix, lo, hi uint64) {
	t.Helper()
	next := lo
	for _, p := range list {
		from, to, ok := modelSpan(p)
		if !ok || from != next {
			t.Fatalf("P1.7: Cover(%d, %d) = %v: %v does not go on at %d", lo, hi, list, p, next)
		}
		if p.Len > 0 {
			size := uint64(1) << (33 - p.Len)
			wider := from / size * size
			if lo <= wider && wider+size-1 <= hi {
				t.Fatalf("P1.7: Cover(%d, %d) = %v: %v lies in a shorter one", lo, hi, list, p)
			}
		}
		next = to + 1
	}
	if next != hi+1 || len(list) > 62 {
		t.Fatalf("P1.7: Cover(%d, %d) = %v ends ahead of %d, or is too long", lo, hi, list, next)
	}
}

func TestP1_9Class(t *testing.T) {
	for n := range 256 {
		want := 0
		switch {
		case n == 0:
			want = 1
		case n == 127:
			want = 2
		case n >= 224 && n <= 239:
			want = 3
		case n >= 240:
			want = 4
		}
		for _, a := range []api.Addr{quad(n, 0, 0, 0), quad(n, 0, 0, 1), quad(n, 127, 224, 240), quad(n, 255, 255, 255)} {
			if got := Class(a); got != want {
				t.Errorf("P1.9: Class(%s) = %d, want %d", Format(a), got, want)
			}
		}
	}
}

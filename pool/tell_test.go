package pool

import (
	"slices"
	"testing"

	"weft/api"
)

func TestP10_5Rising(t *testing.T) {
	p, m := hand(t, 3, 12, 0, 7, 14)
	if l := p.Taken(); len(l) != 0 {
		t.Errorf("Taken() of a new pool = %v", l)
	}
	for _, n := range []int{14, 9, 3, 0, 12, 7, 8} {
		claimed(t, p, m, api.OK, nth(t, n))
	}
	var want []api.Prefix
	for _, n := range []int{0, 3, 7, 8, 9, 12, 14} {
		want = append(want, nth(t, n))
	}
	if l := p.Taken(); !slices.Equal(l, want) {
		t.Errorf("Taken() = %v, want %v", l, want)
	}
	for _, s := range want {
		freed(t, p, m, api.OK, s)
	}
	if l := p.Taken(); len(l) != 0 {
		t.Errorf("Taken() behind everything = %v", l)
	}
}

// Addresses rise without a sign: the upper half lies behind the lower.
func TestP10_5BothHalves(t *testing.T) {
	p, m := made(t, api.Prefix{}, 2, 0, 3<<30)
	for _, n := range []api.Addr{3, 0, 2, 1} {
		claimed(t, p, m, api.OK, api.Prefix{Addr: n << 30, Len: 2})
	}
	if l := p.Taken(); !slices.Equal(l, nets(t, "0.0.0.0/2", "64.0.0.0/2", "128.0.0.0/2", "192.0.0.0/2")) {
		t.Errorf("Taken() = %v", l)
	}
}

func TestP10_6Room(t *testing.T) {
	for low := range 16 {
		for high := low; high < 16; high++ {
			p, _ := hand(t, low, high)
			if n := p.Room(); n != high-low+1 {
				t.Errorf("Room() of %d to %d = %d", low, high, n)
			}
		}
	}
}

// Kept ones of the row are not counted, claimed or not; those outside it neither.
func TestP10_6Kept(t *testing.T) {
	p, m := hand(t, 4, 9, 3, 4, 6, 9, 10)
	rooms := func(want int) {
		t.Helper()
		if n := p.Room(); n != want {
			t.Fatalf("Room() = %d, want %d", n, want)
		}
	}
	rooms(3)
	for _, n := range []int{3, 4, 6, 9, 10} {
		claimed(t, p, m, api.OK, nth(t, n))
		rooms(3)
	}
	claimed(t, p, m, api.OK, nth(t, 5))
	rooms(2)
	for _, n := range []int{3, 4, 6, 9, 10} {
		freed(t, p, m, api.OK, nth(t, n))
		rooms(2)
	}
	take(t, p, m)
	take(t, p, m)
	rooms(0)
	freed(t, p, m, api.OK, nth(t, 8))
	rooms(1)
}

// So many Take calls are answered with OK, and no more: each set of kept ones of a row of six and its two neighbours, and each set of taken ones of it.
func TestP10_6EverySet(t *testing.T) {
	for set := range 256 {
		var kept []int
		for n := range 8 {
			if set>>n&1 == 1 {
				kept = append(kept, 3+n)
			}
		}
		for taken := range 256 {
			p, m := hand(t, 4, 9, kept...)
			for n := range 8 {
				if taken>>n&1 == 1 {
					claim(t, p, m, nth(t, 3+n))
				}
			}
			drain(t, p, m)
		}
	}
}

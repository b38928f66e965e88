package pool

import (
	"testing"

	"weft/api"
)

func TestP10_4NotTaken(t *testing.T) {
	p, m := hand(t, 2, 9, 4, 12)
	for range 2 {
		freed(t, p, m, api.ErrNone, strange(t)...)
		for n := -1; n <= 16; n++ {
			freed(t, p, m, api.ErrNone, nth(t, n))
		}
		take(t, p, m)
		claim(t, p, m, nth(t, 12))
		freed(t, p, m, api.ErrNone, strange(t)...)
		freed(t, p, m, api.ErrNone, nth(t, 4), nth(t, 3), nth(t, 1), nth(t, 11), nth(t, 13), nth(t, -1), nth(t, 16))
		freed(t, p, m, api.OK, nth(t, 2), nth(t, 12))
		freed(t, p, m, api.ErrNone, nth(t, 2), nth(t, 12))
	}
}

// Prefixes that begin where a taken one does, or lie in it, or hold it, are not taken themselves.
func TestP10_4OthersOfItsAddresses(t *testing.T) {
	p, m := hand(t, 0, 15)
	drain(t, p, m)
	freed(t, p, m, api.ErrNone, net(t, "10.0.0.0/24"), net(t, "10.0.0.0/29"), net(t, "10.0.0.8/29"), net(t, "10.0.0.0/27"), net(t, "10.0.0.1/32"), net(t, "0.0.0.0/0"))
	freed(t, p, m, api.ErrNone, api.Prefix{Addr: nth(t, 3).Addr + 1, Len: 28}, api.Prefix{Addr: nth(t, 3).Addr, Len: -28})
	freed(t, p, m, api.OK, nth(t, 3))
}

// Each set of a row of eight is claimed, each single one of it given back, and taken again: so runs are joined and split at both ends, in the middle, and where they are but one long.
func TestP10_4EverySet(t *testing.T) {
	for set := range 256 {
		p, m := hand(t, 4, 11, 6, 2)
		for n := range 8 {
			if set>>n&1 == 1 {
				claimed(t, p, m, api.OK, nth(t, 4+n))
			}
		}
		for n := range 8 {
			want := api.ErrNone
			if set>>n&1 == 1 {
				want = api.OK
			}
			freed(t, p, m, want, nth(t, 4+n))
			freed(t, p, m, api.ErrNone, nth(t, 4+n))
			if want == api.OK {
				claimed(t, p, m, api.OK, nth(t, 4+n))
			}
		}
		drain(t, p, m)
	}
}

// All of a full row is given back, from each place on and in both directions.
func TestP10_4EveryOrder(t *testing.T) {
	for start := range 8 {
		for _, step := range []int{1, 3, 5, 7} {
			p, m := hand(t, 4, 11)
			drain(t, p, m)
			for i := range 8 {
				freed(t, p, m, api.OK, nth(t, 4+(start+i*step)%8))
			}
			drain(t, p, m)
		}
	}
}

// The runs are the least that there can be: joined where they touch, split where one goes out of their middle.
func TestP10_4RunsStayFew(t *testing.T) {
	p, m := hand(t, 0, 15)
	steps := []struct {
		claim bool
		n     int
		runs  int
	}{
		{true, 5, 1}, {true, 7, 2}, {true, 6, 1}, {true, 4, 1}, {true, 8, 1}, {true, 0, 2}, {true, 15, 3}, {true, 1, 3}, {true, 14, 3},
		{false, 6, 4}, {false, 4, 4}, {false, 8, 4}, {false, 5, 3}, {false, 7, 2}, {false, 0, 2}, {false, 15, 2}, {false, 1, 1}, {false, 14, 0},
	}
	for _, x := range steps {
		if x.claim {
			claimed(t, p, m, api.OK, nth(t, x.n))
		} else {
			freed(t, p, m, api.OK, nth(t, x.n))
		}
		if len(p.taken) != x.runs {
			t.Fatalf("behind %v: %d runs: %v", x, len(p.taken), p.taken)
		}
	}
}

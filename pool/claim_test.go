package pool

import (
	"math"
	"testing"

	"weft/api"
)

// claimed claims, and holds the answer against what is wanted.
func claimed(t *testing.T, p *Pool, m *model, want api.Errno, list ...api.Prefix) {
	t.Helper()
	for _, s := range list {
		if e := claim(t, p, m, s); e != want {
			t.Fatalf("Claim(%v) = %d, want %d", s, e, want)
		}
		check(t, p, m)
	}
}

// freed gives back, and holds the answer against what is wanted.
func freed(t *testing.T, p *Pool, m *model, want api.Errno, list ...api.Prefix) {
	t.Helper()
	for _, s := range list {
		if e := free(t, p, m, s); e != want {
			t.Fatalf("Free(%v) = %d, want %d", s, e, want)
		}
		check(t, p, m)
	}
}

func TestP10_3NoSubnet(t *testing.T) {
	p, m := hand(t, 1, 9, 4, 12)
	claimed(t, p, m, api.ErrAlign, strange(t)...)
	drain(t, p, m)
	claimed(t, p, m, api.ErrAlign, strange(t)...)
	// Not aligned, and outside, or taken: the first is told.
	claimed(t, p, m, api.ErrAlign, api.Prefix{Addr: nth(t, 1).Addr, Len: 29}, api.Prefix{Addr: nth(t, 1).Addr | 8, Len: 28}, net(t, "11.0.0.0/24"), api.Prefix{Addr: at(t, "11.0.0.1"), Len: 28})
}

func TestP10_3Outside(t *testing.T) {
	p, m := hand(t, 3, 9, 5, 12)
	for _, n := range []int{-1, -16, 16, 17, 4096} {
		claimed(t, p, m, api.ErrOutside, nth(t, n))
	}
	claimed(t, p, m, api.ErrOutside, net(t, "0.0.0.0/28"), net(t, "255.255.255.240/28"), net(t, "11.0.0.48/28"))
	for _, n := range []int{0, 1, 2, 10, 11, 13, 14, 15} {
		claimed(t, p, m, api.ErrOutside, nth(t, n))
	}
	claimed(t, p, m, api.OK, nth(t, 3), nth(t, 9), nth(t, 5), nth(t, 12))
	claimed(t, p, m, api.ErrOutside, nth(t, 2), nth(t, 10), nth(t, 11), nth(t, 13))
	claimed(t, p, m, api.ErrTaken, nth(t, 3), nth(t, 9), nth(t, 5), nth(t, 12))
}

// The row may be the whole network, whose neighbours lie outside all the same.
func TestP10_3OutsideTheNetwork(t *testing.T) {
	p, m := hand(t, 0, 15)
	claimed(t, p, m, api.ErrOutside, nth(t, -1), nth(t, 16))
	claimed(t, p, m, api.OK, nth(t, 0), nth(t, 15))
	claimed(t, p, m, api.ErrOutside, nth(t, -1), nth(t, 16))
}

// Kept ones, in the row and outside it, are given by Claim: once, till they are given back.
func TestP10_3Kept(t *testing.T) {
	p, m := hand(t, 3, 6, 0, 3, 5, 6, 7, 15)
	for _, n := range []int{0, 3, 5, 6, 7, 15} {
		claimed(t, p, m, api.OK, nth(t, n))
		claimed(t, p, m, api.ErrTaken, nth(t, n))
	}
	drain(t, p, m)
	for _, n := range []int{15, 7, 6, 5, 3, 0} {
		freed(t, p, m, api.OK, nth(t, n))
		claimed(t, p, m, api.OK, nth(t, n))
		freed(t, p, m, api.OK, nth(t, n))
		freed(t, p, m, api.ErrNone, nth(t, n))
	}
}

func TestP10_3Taken(t *testing.T) {
	p, m := hand(t, 0, 15)
	first := take(t, p, m)
	claimed(t, p, m, api.ErrTaken, first)
	claimed(t, p, m, api.OK, nth(t, 4))
	claimed(t, p, m, api.ErrTaken, nth(t, 4))
	freed(t, p, m, api.OK, nth(t, 4))
	claimed(t, p, m, api.OK, nth(t, 4))
	drain(t, p, m)
	for n := range 16 {
		claimed(t, p, m, api.ErrTaken, nth(t, n))
	}
}

// Any order of claims gives the same, and Take gives what they left: all orders of five of a row of six.
func TestP10_3EveryOrder(t *testing.T) {
	var orders func(head, rest []int)
	orders = func(head, rest []int) {
		p, m := hand(t, 4, 9)
		for _, n := range head {
			claimed(t, p, m, api.OK, nth(t, 4+n))
		}
		for i, n := range head {
			if i%2 == 0 {
				freed(t, p, m, api.OK, nth(t, 4+n))
			}
		}
		drain(t, p, m)
		if len(head) == 5 {
			return
		}
		for i, n := range rest {
			others := append(append([]int{}, rest[:i]...), rest[i+1:]...)
			orders(append(append([]int{}, head...), n), others)
		}
	}
	orders(nil, []int{0, 1, 2, 3, 4, 5})
}

func TestP10_3LastOfAllAddresses(t *testing.T) {
	last := api.Prefix{Addr: math.MaxUint32, Len: 32}
	p, m := made(t, api.Prefix{}, 32, math.MaxUint32-9, math.MaxUint32)
	claimed(t, p, m, api.OK, last)
	claimed(t, p, m, api.ErrTaken, last)
	claimed(t, p, m, api.ErrOutside, api.Prefix{Len: 32}, api.Prefix{Addr: 1, Len: 32})
	claimed(t, p, m, api.OK, api.Prefix{Addr: math.MaxUint32 - 1, Len: 32})
	drain(t, p, m)
	freed(t, p, m, api.OK, last)
	freed(t, p, m, api.ErrNone, last)
	p, m = made(t, api.Prefix{}, 32, 0, 3, last)
	claimed(t, p, m, api.OK, last)
	claimed(t, p, m, api.ErrTaken, last)
	claimed(t, p, m, api.ErrOutside, api.Prefix{Addr: math.MaxUint32 - 1, Len: 32}, api.Prefix{Addr: 4, Len: 32})
	p, m = made(t, api.Prefix{}, 1, 0, 1<<31)
	claimed(t, p, m, api.OK, api.Prefix{Addr: 1 << 31, Len: 1})
	claimed(t, p, m, api.ErrAlign, api.Prefix{Addr: 1 << 30, Len: 1}, api.Prefix{}, api.Prefix{Addr: 1 << 31, Len: 2})
	drain(t, p, m)
	p, m = made(t, api.Prefix{}, 0, 0, 0)
	claimed(t, p, m, api.ErrAlign, api.Prefix{Addr: 1}, api.Prefix{Len: 1}, api.Prefix{Addr: 1 << 31})
	claimed(t, p, m, api.OK, api.Prefix{})
	claimed(t, p, m, api.ErrTaken, api.Prefix{})
	p, m = made(t, api.Prefix{}, 0, 0, 0, api.Prefix{})
	drain(t, p, m)
	claimed(t, p, m, api.OK, api.Prefix{})
}

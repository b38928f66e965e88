package pool

import (
	"math"
	"slices"
	"testing"

	"weft/api"
)

// asked holds New against its model, and against what is wanted; behind OK also what the new pool tells.
func asked(t *testing.T, want api.Errno, network api.Prefix, sublen int, low, high api.Addr, kept ...api.Prefix) {
	t.Helper()
	p, e := New(network, sublen, low, high, kept...)
	if m, f := modelOf(network, sublen, low, high, kept...); f != want {
		t.Fatalf("New(%v, %d, %d, %d, %d kept): the model says %d, wanted is %d", network, sublen, low, high, len(kept), f, want)
	} else if f == api.OK && p != nil {
		check(t, p, m)
	}
	if e != want || (p == nil) != (e != api.OK) {
		t.Errorf("New(%v, %d, %d, %d, %d kept) = %v, %d, want %d", network, sublen, low, high, len(kept), p, e, want)
	}
}

// many is n subnets of the length 24 of 10.0.0.0/8, from 10.0.0.0/24 on.
func many(n int) []api.Prefix {
	var list []api.Prefix
	for i := range n {
		list = append(list, api.Prefix{Addr: api.Addr(10<<24 + i<<8), Len: 24})
	}
	return list
}

func TestP10_1HowManyKept(t *testing.T) {
	ten, low, high := net(t, "10.0.0.0/8"), at(t, "10.0.3.0"), at(t, "10.0.10.0")
	for _, n := range []int{0, 1, 2, 1023, 1024} {
		asked(t, api.OK, ten, 24, low, high, many(n)...)
	}
	for _, n := range []int{1025, 1026, 5000} {
		asked(t, api.ErrLong, ten, 24, low, high, many(n)...)
	}
	asked(t, api.OK, ten, 24, low, high, nil...)
	asked(t, api.OK, ten, 24, low, high, []api.Prefix{}...)
}

func TestP10_1Network(t *testing.T) {
	for _, n := range []int{math.MinInt, -32, -1, 33, 64, 256, 1 << 32, 1<<32 + 8, math.MaxInt} {
		asked(t, api.ErrPrefix, api.Prefix{Addr: 10 << 24, Len: n}, 24, 10<<24, 10<<24)
		asked(t, api.ErrPrefix, api.Prefix{Len: n}, 32, 0, 0)
	}
	for i := range 24 {
		asked(t, api.ErrPrefix, api.Prefix{Addr: 10<<24 | 1<<i, Len: 8}, 24, 10<<24, 10<<24)
	}
	for n := range 33 {
		network := api.Prefix{Addr: math.MaxUint32 << (32 - n), Len: n}
		asked(t, api.OK, network, n, network.Addr, network.Addr)
		asked(t, api.OK, network, 32, math.MaxUint32, math.MaxUint32)
	}
}

func TestP10_1Sublen(t *testing.T) {
	ten := net(t, "10.0.0.0/8")
	for n := 8; n <= 32; n++ {
		asked(t, api.OK, ten, n, ten.Addr, ten.Addr)
	}
	for _, n := range []int{math.MinInt, -24, -1, 0, 1, 7, 33, 34, 64, 1<<32 + 24, math.MaxInt} {
		asked(t, api.ErrArg, ten, n, ten.Addr, ten.Addr)
		asked(t, api.ErrArg, api.Prefix{}, -1, 0, 0)
	}
	asked(t, api.OK, api.Prefix{}, 0, 0, 0)
	asked(t, api.ErrAlign, api.Prefix{}, 0, 0, 1<<31)
	asked(t, api.OK, api.Prefix{}, 1, 0, 1<<31)
	asked(t, api.OK, net(t, "10.0.0.7/32"), 32, at(t, "10.0.0.7"), at(t, "10.0.0.7"))
	asked(t, api.ErrArg, net(t, "10.0.0.7/32"), 31, at(t, "10.0.0.7"), at(t, "10.0.0.7"))
	asked(t, api.OK, ten, 8, ten.Addr, ten.Addr, ten)
}

func TestP10_1Row(t *testing.T) {
	ten := net(t, "10.0.0.0/8")
	for _, x := range []struct {
		low, high string
		want      api.Errno
	}{
		{"10.0.0.0", "10.0.0.0", api.OK},
		{"10.0.0.0", "10.0.9.0", api.OK},
		{"10.255.255.0", "10.255.255.0", api.OK},
		{"10.0.1.0", "10.0.0.0", api.ErrArg},
		{"10.255.255.0", "10.0.0.0", api.ErrArg},
		{"255.255.255.0", "0.0.0.0", api.ErrArg},
		{"10.0.1.1", "10.0.1.0", api.ErrArg},
		{"10.0.0.1", "10.0.1.0", api.ErrAlign},
		{"10.0.0.128", "10.0.1.0", api.ErrAlign},
		{"10.0.0.0", "10.0.1.1", api.ErrAlign},
		{"10.0.0.0", "10.0.1.128", api.ErrAlign},
		{"10.0.0.0", "10.0.1.255", api.ErrAlign},
		{"10.0.0.7", "10.0.1.7", api.ErrAlign},
		{"9.255.255.0", "10.0.0.0", api.ErrOutside},
		{"9.255.255.0", "9.255.255.0", api.ErrOutside},
		{"0.0.0.0", "10.0.0.0", api.ErrOutside},
		{"10.0.0.0", "11.0.0.0", api.ErrOutside},
		{"10.0.0.0", "255.255.255.0", api.ErrOutside},
		{"11.0.0.0", "11.0.0.0", api.ErrOutside},
		{"9.255.255.0", "11.0.0.0", api.ErrOutside},
		{"11.0.0.0", "10.0.0.0", api.ErrArg},
		{"11.0.0.1", "12.0.0.0", api.ErrAlign},
		{"9.0.0.0", "10.0.0.1", api.ErrAlign},
	} {
		asked(t, x.want, ten, 24, at(t, x.low), at(t, x.high))
	}
	for i := range 8 {
		asked(t, api.ErrAlign, ten, 24, ten.Addr|1<<i, at(t, "10.0.9.0"))
		asked(t, api.ErrAlign, ten, 24, ten.Addr, at(t, "10.0.9.0")|1<<i)
	}
}

func TestP10_1Kept(t *testing.T) {
	ten, low, high := net(t, "10.0.0.0/8"), at(t, "10.0.1.0"), at(t, "10.0.4.0")
	good, other := net(t, "10.0.2.0/24"), net(t, "10.0.9.0/24")
	align := []api.Prefix{
		{}, net(t, "10.0.2.0/23"), net(t, "10.0.2.0/25"), net(t, "10.0.0.0/8"), net(t, "10.0.2.0/32"), net(t, "11.0.0.0/16"),
		{Addr: good.Addr | 1, Len: 24}, {Addr: good.Addr | 128, Len: 24}, {Addr: at(t, "11.0.0.1"), Len: 24},
		{Addr: good.Addr, Len: -24}, {Addr: good.Addr, Len: math.MinInt}, {Addr: good.Addr, Len: math.MaxInt}, {Addr: good.Addr, Len: 24 + 1<<32},
	}
	outside := nets(t, "9.255.255.0/24", "11.0.0.0/24", "0.0.0.0/24", "255.255.255.0/24")
	for _, s := range align {
		asked(t, api.ErrAlign, ten, 24, low, high, s)
		asked(t, api.ErrAlign, ten, 24, low, high, good, other, s)
		asked(t, api.ErrAlign, ten, 24, low, high, s, outside[0])
		asked(t, api.ErrAlign, ten, 24, low, high, s, good, good)
		asked(t, api.ErrAlign, ten, 24, low, high, s, s)
		asked(t, api.ErrDup, ten, 24, low, high, good, good, s)
	}
	for _, s := range outside {
		asked(t, api.ErrOutside, ten, 24, low, high, s)
		asked(t, api.ErrOutside, ten, 24, low, high, other, good, s)
		asked(t, api.ErrOutside, ten, 24, low, high, s, align[1])
		asked(t, api.ErrOutside, ten, 24, low, high, s, good, good)
		asked(t, api.ErrOutside, ten, 24, low, high, s, s)
		asked(t, api.ErrDup, ten, 24, low, high, good, good, s)
	}
	asked(t, api.ErrDup, ten, 24, low, high, good, good)
	asked(t, api.ErrDup, ten, 24, low, high, other, good, other)
	asked(t, api.ErrDup, ten, 24, low, high, append(many(1023), net(t, "10.0.0.0/24"))...)
	asked(t, api.ErrDup, ten, 24, low, high, append(many(1023), many(1023)[1022])...)
	for _, list := range [][]string{
		{"10.0.1.0/24"}, {"10.0.4.0/24"}, {"10.0.1.0/24", "10.0.4.0/24"}, {"10.0.4.0/24", "10.0.1.0/24"},
		{"10.0.0.0/24", "10.0.5.0/24"}, {"10.0.2.0/24", "10.0.3.0/24"}, {"10.0.3.0/24", "10.0.2.0/24"},
		{"10.0.1.0/24", "10.0.2.0/24", "10.0.3.0/24", "10.0.4.0/24"}, {"10.0.0.0/24", "10.255.255.0/24"},
		{"10.0.0.0/24", "10.0.1.0/24", "10.0.4.0/24", "10.0.5.0/24"},
	} {
		asked(t, api.OK, ten, 24, low, high, nets(t, list...)...)
	}
}

// Where two errors apply the one that is named first is told: each pair of them.
func TestP10_1FirstNamed(t *testing.T) {
	ten := net(t, "10.0.0.0/8")
	spoilt := api.Prefix{Addr: ten.Addr | 1, Len: 8}
	dup := nets(t, "10.0.2.0/24", "10.0.2.0/24")
	long := slices.Repeat(dup, 600)
	low, high := at(t, "10.0.1.0"), at(t, "10.0.4.0")
	asked(t, api.ErrLong, spoilt, 24, low, high, long...)
	asked(t, api.ErrLong, ten, 33, low, high, long...)
	asked(t, api.ErrLong, ten, 24, high, low, long...)
	asked(t, api.ErrLong, ten, 24, low|1, high, long...)
	asked(t, api.ErrLong, ten, 24, 0, high, long...)
	asked(t, api.ErrLong, ten, 24, low, high, long...)
	asked(t, api.ErrPrefix, spoilt, 33, low, high)
	asked(t, api.ErrPrefix, spoilt, 24, high, low)
	asked(t, api.ErrPrefix, spoilt, 24, low|1, high)
	asked(t, api.ErrPrefix, spoilt, 24, 0, high)
	asked(t, api.ErrPrefix, spoilt, 24, low, high, dup...)
	asked(t, api.ErrPrefix, api.Prefix{Addr: ten.Addr, Len: 33}, 32, low, high)
	asked(t, api.ErrPrefix, api.Prefix{Addr: ten.Addr, Len: 33}, 33, low, high)
	asked(t, api.ErrArg, ten, 7, low|1, high)
	asked(t, api.ErrArg, ten, 33, low|1, high)
	asked(t, api.ErrArg, ten, 33, 0, high)
	asked(t, api.ErrArg, ten, 33, low, high, dup...)
	asked(t, api.ErrArg, ten, 24, high, low|1)
	asked(t, api.ErrArg, ten, 24, at(t, "10.0.1.128"), ten.Addr)
	asked(t, api.ErrArg, ten, 24, high, 0)
	asked(t, api.ErrArg, ten, 24, high, low, dup...)
	asked(t, api.ErrAlign, ten, 24, 1, high)
	asked(t, api.ErrAlign, ten, 24, 0, high|1)
	asked(t, api.ErrAlign, ten, 24, low|1, at(t, "255.255.255.0"))
	asked(t, api.ErrAlign, ten, 24, low, math.MaxUint32)
	asked(t, api.ErrAlign, ten, 24, low|1, high, net(t, "11.0.0.0/24"))
	asked(t, api.ErrAlign, ten, 24, low, high|1, dup...)
	asked(t, api.ErrOutside, ten, 24, 0, high, net(t, "10.0.2.0/25"))
	asked(t, api.ErrOutside, ten, 24, low, at(t, "255.255.255.0"), dup...)
}

// Any arguments, rolled so that each error comes: the model says which.
func TestP10_1AnyArguments(t *testing.T) {
	r := dice()
	seen := map[api.Errno]int{}
	for range 60000 {
		network := api.Prefix{Addr: api.Addr(r.Intn(4)) << 30, Len: r.Intn(5)}
		sublen := network.Len + r.Intn(3)
		few := func() api.Addr { return api.Addr(r.Intn(64)) << 26 }
		low, high := few()&^(1<<27-1), few()
		if r.Intn(3) > 0 {
			low, high = network.Addr, network.Addr+few()>>max(network.Len, 1)&(math.MaxUint32<<(32-sublen))
		}
		var kept []api.Prefix
		for range r.Intn(4) {
			s := api.Prefix{Addr: network.Addr + few()>>max(network.Len, 1)&(math.MaxUint32<<(32-sublen)), Len: sublen}
			if r.Intn(12) == 0 {
				s = api.Prefix{Addr: few(), Len: sublen + r.Intn(3) - 1}
			}
			kept = append(kept, s)
		}
		p, e := New(network, sublen, low, high, kept...)
		m, f := modelOf(network, sublen, low, high, kept...)
		if e != f || (p == nil) != (e != api.OK) {
			t.Fatalf("New(%v, %d, %d, %d, %v) = %v, %d, want %d", network, sublen, low, high, kept, p, e, f)
		}
		if e == api.OK {
			check(t, p, m)
		}
		seen[e]++
	}
	for _, e := range []api.Errno{api.OK, api.ErrPrefix, api.ErrArg, api.ErrAlign, api.ErrOutside, api.ErrDup} {
		if seen[e] < 100 {
			t.Errorf("the dice told %d only %d times", e, seen[e])
		}
	}
}

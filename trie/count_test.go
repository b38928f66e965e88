package trie

import (
	"math/bits"
	"slices"
	"testing"

	"weft/api"
)

func TestP8_4Examples(t *testing.T) {
	x := New[int]()
	counts := func(values, nodes int) {
		t.Helper()
		if x.Len() != values || x.Nodes() != nodes {
			t.Errorf("Len %d, Nodes %d, want %d, %d", x.Len(), x.Nodes(), values, nodes)
		}
	}
	counts(0, 0)
	x.Put(net(t, "10.0.0.0/8"), 1)
	x.Put(net(t, "10.1.0.0/16"), 2)
	x.Put(net(t, "10.1.2.0/24"), 3)
	counts(3, 3)
	x.Put(net(t, "10.1.3.0/24"), 4)
	counts(4, 5)
	x.Del(net(t, "10.1.2.0/24"))
	counts(3, 3)
	x = New[int]()
	x.Put(net(t, "0.0.0.0/1"), 1)
	x.Put(net(t, "128.0.0.0/1"), 2)
	counts(2, 3)
	x = New[int]()
	x.Put(net(t, "1.2.3.4/32"), 7)
	counts(1, 1)
}

// A value laid on a fork, and taken from it, adds no node and takes none.
func TestP8_4ValueOnAFork(t *testing.T) {
	x, m := filled(t, net(t, "10.1.2.0/24"), net(t, "10.1.3.0/24"))
	if x.Nodes() != 3 {
		t.Errorf("Nodes %d", x.Nodes())
	}
	put(t, x, m, net(t, "10.1.2.0/23"), 5)
	checkCounts(t, x, m)
	if x.Len() != 3 || x.Nodes() != 3 {
		t.Errorf("with a value on the fork: %d, %d", x.Len(), x.Nodes())
	}
	del(t, x, m, net(t, "10.1.2.0/23"))
	checkCounts(t, x, m)
	if x.Len() != 2 || x.Nodes() != 3 {
		t.Errorf("without it: %d, %d", x.Len(), x.Nodes())
	}
	del(t, x, m, net(t, "10.1.3.0/24"))
	if x.Len() != 1 || x.Nodes() != 1 {
		t.Errorf("with one left: %d, %d", x.Len(), x.Nodes())
	}
}

// 33 nested prefixes are 33 nodes; what hangs beside each of them adds one each.
func TestP8_4Chains(t *testing.T) {
	a := at(t, "10.1.3.7")
	x, m := filled(t, chain(a)...)
	if x.Len() != 33 || x.Nodes() != 33 {
		t.Errorf("%d, %d", x.Len(), x.Nodes())
	}
	for i := range 32 {
		put(t, x, m, cut(a^1<<(31-i), i+1), i)
	}
	if x.Len() != 65 || x.Nodes() != 65 {
		t.Errorf("%d, %d", x.Len(), x.Nodes())
	}
	for n := range 32 {
		del(t, x, m, cut(a, n))
		checkCounts(t, x, m)
	}
	if x.Len() != 33 || x.Nodes() != 65 {
		t.Errorf("only forks above: %d, %d", x.Len(), x.Nodes())
	}
}

// every goes through all sets of prefixes, one Put or Del from each to the next, and holds the trie against the model at each.
func every(t *testing.T, ps []api.Prefix) {
	t.Helper()
	x, m := New[int](), model{}
	for i := 1; i < 1<<len(ps); i++ {
		flip(t, x, m, ps[bits.TrailingZeros(uint(i))], i)
		check(t, x, m, ps...)
	}
	if len(m) != 1 {
		t.Errorf("at the end %d were left", len(m))
	}
}

// All sets of the prefixes of a small family, at both ends of the lengths and of the addresses, and of some that lie apart.
func TestP8_4EverySet(t *testing.T) {
	every(t, family(api.Prefix{}, 2))
	every(t, family(net(t, "255.255.255.252/30"), 32))
	every(t, family(net(t, "0.0.0.0/30"), 32))
	every(t, append(family(net(t, "10.1.2.0/23"), 25), api.Prefix{}, net(t, "10.0.0.0/8")))
	every(t, []api.Prefix{{}, net(t, "0.0.0.0/1"), net(t, "128.0.0.0/1"), net(t, "255.255.255.255/32"), net(t, "10.0.0.0/8"), net(t, "10.1.0.0/16"), net(t, "10.1.3.0/24"), net(t, "10.1.2.0/24"), net(t, "10.200.0.0/16")})
}

// All sets of 15 prefixes: the counts and the order alone.
func TestP8_4EverySetOfFifteen(t *testing.T) {
	for _, ps := range [][]api.Prefix{family(api.Prefix{}, 3), family(net(t, "255.255.255.248/29"), 32)} {
		x, m := New[int](), model{}
		for i := 1; i < 1<<len(ps); i++ {
			flip(t, x, m, ps[bits.TrailingZeros(uint(i))], i)
			checkCounts(t, x, m)
			checkAll(t, x, m)
		}
	}
}

// The same prefixes, come and gone in any order, with others that came and went between them.
func TestP8_4AnyOrder(t *testing.T) {
	r := dice()
	all := spread(t)
	for _, p := range family(net(t, "10.1.2.0/23"), 26) {
		if !slices.Contains(all, p) {
			all = append(all, p)
		}
	}
	for range 60 {
		r.Shuffle(len(all), func(i, k int) { all[i], all[k] = all[k], all[i] })
		stay := slices.Clone(all[:1+r.Intn(20)])
		want := -1
		for range 8 {
			x, m := New[int](), model{}
			r.Shuffle(len(stay), func(i, k int) { stay[i], stay[k] = stay[k], stay[i] })
			for i, p := range stay {
				other := all[r.Intn(len(all))]
				flip(t, x, m, other, -i)
				checkCounts(t, x, m)
				put(t, x, m, p, i)
				checkCounts(t, x, m)
			}
			for _, p := range all {
				if !slices.Contains(stay, p) {
					del(t, x, m, p)
				} else if _, there := m[p]; !there {
					put(t, x, m, p, 1)
				}
				checkCounts(t, x, m)
			}
			if want < 0 {
				want = x.Nodes()
			}
			if x.Len() != len(stay) || x.Nodes() != want {
				t.Fatalf("%d, %d, want %d, %d, of %v", x.Len(), x.Nodes(), len(stay), want, stay)
			}
		}
	}
}

// At most 2*Len - 1 nodes, and as many where all are leaves.
func TestP8_4Bound(t *testing.T) {
	x := New[int]()
	for i := range 256 {
		x.Put(api.Prefix{Addr: api.Addr(i) << 24, Len: 8}, i)
		if x.Nodes() != 2*x.Len()-1 {
			t.Errorf("%d leaves: Nodes %d", x.Len(), x.Nodes())
		}
	}
	for i := range 256 {
		x.Del(api.Prefix{Addr: api.Addr(bits.Reverse8(uint8(i))) << 24, Len: 8})
		if want := max(2*x.Len()-1, 0); x.Nodes() != want {
			t.Errorf("%d leaves: Nodes %d", x.Len(), x.Nodes())
		}
	}
}

// Calls that are refused, that ask, or that put over a value, count nothing.
func TestP8_4NothingElseCounts(t *testing.T) {
	x, m := filled(t, spread(t)...)
	for _, p := range append(spread(t), wrong()...) {
		x.Get(p)
		x.Find(p.Addr)
		told(x.Within(p))
		checkCounts(t, x, m)
	}
	for _, p := range wrong() {
		put(t, x, m, p, 1)
		del(t, x, m, p)
		checkCounts(t, x, m)
	}
	for _, p := range spread(t) {
		put(t, x, m, p, 5)
		checkCounts(t, x, m)
	}
}

// No bound: a hundred thousand prefixes come and go.
func TestP8_4Many(t *testing.T) {
	x := New[int]()
	const many = 100000
	for i := range many {
		x.Put(api.Prefix{Addr: api.Addr(i) * 40503, Len: 32}, i)
	}
	if x.Len() != many || x.Nodes() != 2*many-1 {
		t.Errorf("%d, %d", x.Len(), x.Nodes())
	}
	n := 0
	for p, v := range x.All() {
		if p.Addr != api.Addr(v)*40503 || p.Len != 32 {
			t.Fatalf("%v has %d", p, v)
		}
		x.Del(p)
		n++
	}
	if n != many || x.Len() != 0 || x.Nodes() != 0 {
		t.Errorf("%d were told; %d, %d are left", n, x.Len(), x.Nodes())
	}
}

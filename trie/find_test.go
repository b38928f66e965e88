package trie

import (
	"testing"

	"weft/addr"
	"weft/api"
)

func TestP8_2Examples(t *testing.T) {
	x := New[int]()
	for i, s := range []string{"10.0.0.0/8", "10.1.0.0/16", "10.1.2.0/24"} {
		x.Put(net(t, s), i+1)
	}
	finds := func(a, want string, value int) {
		t.Helper()
		p, v, e := x.Find(at(t, a))
		if want == "" {
			if p != (api.Prefix{}) || v != 0 || e != api.ErrNone {
				t.Errorf("Find(%s) = %v, %d, %d, want ErrNone", a, p, v, e)
			}
			return
		}
		if p != net(t, want) || v != value || e != api.OK {
			t.Errorf("Find(%s) = %v, %d, %d, want %s, %d", a, p, v, e, want, value)
		}
	}
	finds("10.1.2.9", "10.1.2.0/24", 3)
	finds("10.1.3.1", "10.1.0.0/16", 2)
	finds("10.2.0.0", "10.0.0.0/8", 1)
	finds("11.0.0.0", "", 0)
	x.Put(api.Prefix{}, 0)
	finds("11.0.0.0", "0.0.0.0/0", 0)
	finds("10.1.2.9", "10.1.2.0/24", 3)
}

func TestP8_2NoneInAnEmptyTrie(t *testing.T) {
	x := New[int]()
	for _, p := range spread(t) {
		checkFind(t, x, model{}, p.Addr)
		checkFind(t, x, model{}, lastOf(p))
	}
}

// Both ends of each prefix and the addresses beside them, whatever is nested around.
func TestP8_2Ends(t *testing.T) {
	x, m := filled(t, spread(t)...)
	for i, p := range spread(t) {
		for _, a := range []api.Addr{p.Addr, lastOf(p), p.Addr - 1, lastOf(p) + 1} {
			checkFind(t, x, m, a)
		}
		alone, one := filled(t, p)
		for _, a := range []api.Addr{p.Addr, lastOf(p), p.Addr - 1, lastOf(p) + 1} {
			checkFind(t, alone, one, a)
			if _, _, e := alone.Find(a); (e == api.OK) != addr.Contains(p, a) {
				t.Errorf("of %v, the %d-th: Find(%d): %d", p, i, a, e)
			}
		}
	}
}

// With all 33 prefixes of an address the one that shares the most bits is found, and without it the next one.
func TestP8_2ManyNested(t *testing.T) {
	for _, a := range []api.Addr{0, 1<<32 - 1, at(t, "10.1.3.7"), at(t, "170.170.170.170")} {
		x, m := filled(t, chain(a)...)
		for i := range 32 {
			q := a ^ 1<<(31-i)
			if p, v, e := x.Find(q); p != cut(a, i) || v != i || e != api.OK {
				t.Errorf("Find(%x) = %v, %d, %d, want the length %d", q, p, v, e, i)
			}
		}
		for n := 32; n >= 0; n-- {
			if p, v, e := x.Find(a); p != cut(a, n) || v != n || e != api.OK {
				t.Errorf("Find(%x) = %v, %d, %d, want the length %d", a, p, v, e, n)
			}
			del(t, x, m, cut(a, n))
		}
		checkFind(t, x, m, a)
	}
}

// A fork without a value is not found, nor is what lies beside the address below a bit that a step skips.
func TestP8_2ForksAreNotFound(t *testing.T) {
	x, m := filled(t, net(t, "10.1.2.0/24"), net(t, "10.1.3.0/24"), net(t, "10.8.0.0/16"))
	for _, s := range []string{"10.1.1.0", "10.1.4.0", "10.0.0.0", "10.15.0.0", "10.9.0.0", "11.1.2.0", "10.1.2.0", "10.1.3.255", "10.8.255.255", "74.1.2.0", "10.5.2.0"} {
		checkFind(t, x, m, at(t, s))
	}
	if _, v, e := x.Find(at(t, "10.1.1.0")); v != 0 || e != api.ErrNone {
		t.Errorf("a fork was found: %d, %d", v, e)
	}
	put(t, x, m, net(t, "10.0.0.0/8"), 9)
	for _, s := range []string{"10.1.1.0", "10.1.4.0", "10.0.0.0", "10.15.0.0", "10.9.0.0", "11.1.2.0", "10.1.2.0", "10.5.2.0"} {
		checkFind(t, x, m, at(t, s))
	}
}

func TestP8_2ChangesNothing(t *testing.T) {
	x, m := filled(t, spread(t)...)
	for range 3 {
		for _, p := range spread(t) {
			checkFind(t, x, m, p.Addr)
			checkFind(t, x, m, lastOf(p)+1)
		}
		check(t, x, m, spread(t)...)
	}
}

func TestP8_2AnyAddress(t *testing.T) {
	r := dice()
	for range 200 {
		x, m := New[int](), model{}
		for i := range 1 + r.Intn(40) {
			put(t, x, m, cut(api.Addr(r.Uint32()), r.Intn(33)), i)
			put(t, x, m, cut(at(t, "10.1.2.0")+api.Addr(r.Intn(512)), 16+r.Intn(17)), -i)
		}
		for range 100 {
			checkFind(t, x, m, api.Addr(r.Uint32()))
			checkFind(t, x, m, at(t, "10.1.1.0")+api.Addr(r.Intn(1024)))
		}
	}
}

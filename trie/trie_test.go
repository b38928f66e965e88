package trie

import (
	"slices"
	"testing"

	"weft/api"
)

func TestP8_1NewIsEmpty(t *testing.T) {
	x := New[int]()
	if x == nil {
		t.Fatal("New gave nil")
	}
	check(t, x, model{}, spread(t)...)
	for _, p := range spread(t) {
		del(t, x, model{}, p)
	}
	check(t, x, model{}, spread(t)...)
}

func TestP8_1Examples(t *testing.T) {
	x := New[int]()
	for i, s := range []string{"10.0.0.0/8", "10.1.0.0/16", "10.1.2.0/24", "10.1.3.0/24"} {
		if e := x.Put(net(t, s), i+1); e != api.OK {
			t.Errorf("Put(%s): %d", s, e)
		}
	}
	if v, e := x.Del(net(t, "10.1.2.0/24")); v != 3 || e != api.OK {
		t.Errorf("Del: %d, %d", v, e)
	}
	if v, e := x.Get(net(t, "10.1.2.0/24")); v != 0 || e != api.ErrNone {
		t.Errorf("Get behind Del: %d, %d", v, e)
	}
	if e := x.Put(net(t, "0.0.0.0/0"), 0); e != api.OK {
		t.Errorf("Put of all: %d", e)
	}
	if v, e := x.Get(api.Prefix{}); v != 0 || e != api.OK {
		t.Errorf("Get of all: %d, %d", v, e)
	}
	for _, p := range []api.Prefix{pre(t, "10.0.0.1", 8), pre(t, "10.0.0.0", 33), pre(t, "10.0.0.0", -1)} {
		if e := x.Put(p, 9); e != api.ErrPrefix {
			t.Errorf("Put(%v): %d", p, e)
		}
	}
}

func TestP8_1PutOverAValue(t *testing.T) {
	for _, p := range spread(t) {
		x, m := filled(t, spread(t)...)
		put(t, x, m, p, -5)
		check(t, x, m, spread(t)...)
		put(t, x, m, p, -5)
		put(t, x, m, p, 0)
		check(t, x, m, spread(t)...)
		del(t, x, m, p)
		del(t, x, m, p)
		check(t, x, m, spread(t)...)
	}
}

// Each length once, at both ends and in the middle of the address space, alone in the trie.
func TestP8_1EveryLengthAlone(t *testing.T) {
	for _, a := range []api.Addr{0, 1<<32 - 1, at(t, "127.255.255.255"), at(t, "128.0.0.0"), at(t, "10.1.2.3"), at(t, "170.170.170.170")} {
		for _, p := range chain(a) {
			x, m := filled(t, p)
			check(t, x, m, chain(a)...)
			check(t, x, m, spread(t)...)
			del(t, x, m, p)
			check(t, x, m, chain(a)...)
		}
	}
}

// A prefix has its value whatever else is there: every pair of prefixes that stand above, below or beside each other, in both orders, and either goes.
func TestP8_1Pairs(t *testing.T) {
	ps := append(spread(t), chain(at(t, "10.1.3.7"))...)
	for _, p := range ps {
		for _, q := range ps {
			x, m := filled(t, p, q)
			check(t, x, m, p, q)
			del(t, x, m, p)
			check(t, x, m, p, q)
			put(t, x, m, p, 7)
			check(t, x, m, p, q)
			del(t, x, m, q)
			check(t, x, m, p, q)
			del(t, x, m, p)
			check(t, x, m, p, q)
		}
	}
}

// What is not there: a prefix that only forks, those above and below one that is there, and those beside it.
func TestP8_1NotThere(t *testing.T) {
	x, m := filled(t, net(t, "10.1.2.0/24"), net(t, "10.1.3.0/24"), net(t, "10.8.0.0/16"))
	for _, s := range []string{
		"10.1.2.0/23", "10.0.0.0/12", "10.0.0.0/8", "0.0.0.0/0", "10.1.0.0/16", "10.0.0.0/11", "10.0.0.0/13", "10.1.0.0/22", "10.1.2.0/25", "10.1.2.128/25",
		"10.1.2.0/32", "10.1.2.255/32", "10.1.4.0/24", "10.1.0.0/24", "10.9.0.0/16", "10.8.0.0/15", "10.8.0.0/17",
	} {
		if v, e := x.Get(net(t, s)); v != 0 || e != api.ErrNone {
			t.Errorf("Get(%s) = %d, %d", s, v, e)
		}
		if v, e := x.Del(net(t, s)); v != 0 || e != api.ErrNone {
			t.Errorf("Del(%s) = %d, %d", s, v, e)
		}
		check(t, x, m, net(t, s))
	}
}

// Del of a leaf, of one with one below, with two below, of the last one: what stays is as it was.
func TestP8_1DelLeavesTheOthers(t *testing.T) {
	for _, list := range [][]string{
		{"10.0.0.0/8"},
		{"10.0.0.0/8", "10.1.0.0/16"},
		{"10.0.0.0/8", "10.1.0.0/16", "10.200.0.0/16"},
		{"10.0.0.0/8", "10.1.0.0/16", "10.2.0.0/16"},
		{"0.0.0.0/0", "0.0.0.0/1", "128.0.0.0/1"},
		{"0.0.0.0/0", "0.0.0.0/32", "255.255.255.255/32"},
		{"9.0.0.0/8", "10.0.0.0/8", "10.1.0.0/16", "11.0.0.0/8"},
		{"1.2.3.4/31", "1.2.3.4/32", "1.2.3.5/32"},
	} {
		var ps []api.Prefix
		for _, s := range list {
			ps = append(ps, net(t, s))
		}
		for i := range ps {
			x, m := filled(t, ps...)
			for k := range ps {
				p := ps[(i+k)%len(ps)]
				del(t, x, m, p)
				check(t, x, m, append(spread(t), ps...)...)
				del(t, x, m, p)
				check(t, x, m, ps...)
			}
		}
	}
}

func TestP8_1WrongPrefixes(t *testing.T) {
	for _, full := range []bool{false, true} {
		x, m := New[int](), model{}
		if full {
			x, m = filled(t, spread(t)...)
		}
		for _, p := range wrong() {
			if e := x.Put(p, 9); e != api.ErrPrefix {
				t.Errorf("Put(%v) = %d", p, e)
			}
			if v, e := x.Get(p); v != 0 || e != api.ErrPrefix {
				t.Errorf("Get(%v) = %d, %d", p, v, e)
			}
			if v, e := x.Del(p); v != 0 || e != api.ErrPrefix {
				t.Errorf("Del(%v) = %d, %d", p, v, e)
			}
			check(t, x, m, p)
		}
		check(t, x, m, spread(t)...)
	}
}

// A bit behind the first Len bits, at each place and of each length, is refused, and the prefix without it is not touched.
func TestP8_1HostBits(t *testing.T) {
	x, m := filled(t, chain(at(t, "10.1.3.7"))...)
	for _, p := range chain(at(t, "10.1.3.7")) {
		for i := p.Len; i < 32; i++ {
			bad := api.Prefix{Addr: p.Addr | 1<<(31-i), Len: p.Len}
			put(t, x, m, bad, 99)
			del(t, x, m, bad)
			checkGet(t, x, m, bad)
			checkGet(t, x, m, p)
		}
	}
	check(t, x, m, chain(at(t, "10.1.3.7"))...)
}

// Many steps by dice over prefixes that lie close together and far apart.
func TestP8_1AnySteps(t *testing.T) {
	r := dice()
	for range 300 {
		ps := slices.Concat(spread(t), wrong()[:4])
		for range 20 {
			ps = append(ps, cut(api.Addr(r.Uint32()), r.Intn(33)), cut(at(t, "10.1.2.0")+api.Addr(r.Intn(512)), 20+r.Intn(13)))
		}
		x, m := New[int](), model{}
		for i := range 60 {
			p := ps[r.Intn(len(ps))]
			if r.Intn(3) > 0 {
				put(t, x, m, p, i)
			} else {
				del(t, x, m, p)
			}
			checkCounts(t, x, m)
			checkGet(t, x, m, p)
		}
		check(t, x, m, ps...)
	}
}

// A value is whatever its type has, the zero value and nil too.
func TestP8_1ZeroValuesAreValues(t *testing.T) {
	p, q := net(t, "10.0.0.0/8"), net(t, "10.1.0.0/16")
	x := New[*int]()
	x.Put(p, nil)
	if v, e := x.Get(p); v != nil || e != api.OK {
		t.Errorf("nil: %v, %d", v, e)
	}
	if g, v, e := x.Find(q.Addr); g != p || v != nil || e != api.OK {
		t.Errorf("Find of nil: %v, %v, %d", g, v, e)
	}
	if x.Len() != 1 || x.Nodes() != 1 {
		t.Errorf("%d, %d", x.Len(), x.Nodes())
	}
	if v, e := x.Del(p); v != nil || e != api.OK || x.Len() != 0 {
		t.Errorf("Del of nil: %v, %d", v, e)
	}
	y := New[struct{}]()
	y.Put(p, struct{}{})
	y.Put(q, struct{}{})
	if _, e := y.Del(p); e != api.OK || y.Len() != 1 {
		t.Errorf("of no bytes: %d, %d left", e, y.Len())
	}
	if _, e := y.Get(p); e != api.ErrNone {
		t.Errorf("of no bytes, behind Del: %d", e)
	}
	if _, e := y.Get(q); e != api.OK {
		t.Errorf("of no bytes: %d", e)
	}
	z := New[any]()
	z.Put(p, nil)
	z.Put(q, "text")
	if v, e := z.Get(p); v != nil || e != api.OK {
		t.Errorf("a nil interface: %v, %d", v, e)
	}
	if v, e := z.Get(q); v != "text" || e != api.OK {
		t.Errorf("an interface: %v, %d", v, e)
	}
}

// A slice, pointer, map or function is handed back as it was handed in, spare room and all.
func TestP8_1ValuesAreNotCopied(t *testing.T) {
	p := net(t, "10.0.0.0/8")
	x := New[[]int]()
	list := make([]int, 2, 5)
	x.Put(p, list)
	list[1] = 7
	same := func(what string, l []int, e api.Errno) {
		t.Helper()
		if e != api.OK || len(l) != 2 || cap(l) != 5 || &l[0] != &list[0] || l[1] != 7 {
			t.Errorf("%s: %v, %d", what, l, e)
		}
	}
	v, e := x.Get(p)
	same("Get", v, e)
	_, v, e = x.Find(p.Addr)
	same("Find", v, e)
	for _, v := range x.All() {
		same("All", v, api.OK)
	}
	for _, v := range x.Within(p) {
		same("Within", v, api.OK)
	}
	x.Put(net(t, "10.0.0.0/9"), nil)
	x.Put(net(t, "10.128.0.0/9"), nil)
	v, e = x.Get(p)
	same("Get behind a Put below", v, e)
	v[1] = 8
	list[1] = 7
	v, e = x.Del(p)
	same("Del", v, e)

	n := 5
	y := New[*int]()
	y.Put(p, &n)
	if v, e := y.Get(p); v != &n || e != api.OK {
		t.Errorf("a pointer: %v, %d", v, e)
	}
	if v, e := y.Del(p); v != &n || e != api.OK {
		t.Errorf("a pointer: %v, %d", v, e)
	}
	z := New[map[string]int]()
	z.Put(p, map[string]int{})
	if v, _ := z.Get(p); v != nil {
		v["a"] = 1
	}
	if v, _ := z.Get(p); v["a"] != 1 {
		t.Errorf("a map: %v", v)
	}
	f := New[func() int]()
	f.Put(p, func() int { n++; return n })
	if v, _ := f.Get(p); v == nil || v() != 6 || n != 6 {
		t.Error("a function is not the one that was put")
	}
}

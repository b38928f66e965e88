package trie

import (
	"cmp"
	"iter"
	"maps"
	"math"
	"math/rand"
	"slices"
	"testing"

	"weft/addr"
	"weft/api"
)

// dice rolls the same way in every run.
func dice() *rand.Rand {
	return rand.New(rand.NewSource(8))
}

// pre reads a prefix, host bits and all.
func pre(t *testing.T, s string, n int) api.Prefix {
	t.Helper()
	return api.Prefix{Addr: at(t, s), Len: n}
}

// net reads a valid prefix.
func net(t *testing.T, s string) api.Prefix {
	t.Helper()
	p, e := addr.ParsePrefix(s)
	if e != api.OK {
		t.Fatalf("%s is no prefix: %d", s, e)
	}
	return p
}

func at(t *testing.T, s string) api.Addr {
	t.Helper()
	a, e := addr.Parse(s)
	if e != api.OK {
		t.Fatalf("%s is no address: %d", s, e)
	}
	return a
}

// pair is one step of a loop.
type pair struct {
	p api.Prefix
	v int
}

// told is what a loop is told, from its begin to its end.
func told(seq iter.Seq2[api.Prefix, int]) []pair {
	var list []pair
	for p, v := range seq {
		list = append(list, pair{p, v})
	}
	return list
}

// model is the chapter's words over a plain map, which is gone through from end to end at each call.
type model map[api.Prefix]int

// bit is an address's bit, counted from the highest.
func bit(a api.Addr, i int) api.Addr {
	return a >> (31 - i) & 1
}

func valid(p api.Prefix) bool {
	if p.Len < 0 || p.Len > 32 {
		return false
	}
	for i := p.Len; i < 32; i++ {
		if bit(p.Addr, i) != 0 {
			return false
		}
	}
	return true
}

// holds tells whether an address has a valid prefix's first bits.
func holds(p api.Prefix, a api.Addr) bool {
	for i := range p.Len {
		if bit(p.Addr, i) != bit(a, i) {
			return false
		}
	}
	return true
}

func inside(q, p api.Prefix) bool {
	return q.Len >= p.Len && holds(p, q.Addr)
}

// cut is the prefix of an address's first n bits.
func cut(a api.Addr, n int) api.Prefix {
	p := api.Prefix{Len: n}
	for i := range n {
		p.Addr |= bit(a, i) << (31 - i)
	}
	return p
}

// lastOf is a valid prefix's last address.
func lastOf(p api.Prefix) api.Addr {
	a := p.Addr
	for i := p.Len; i < 32; i++ {
		a |= 1 << (31 - i)
	}
	return a
}

func (m model) put(p api.Prefix, v int) api.Errno {
	if !valid(p) {
		return api.ErrPrefix
	}
	m[p] = v
	return api.OK
}

func (m model) get(p api.Prefix) (int, api.Errno) {
	if !valid(p) {
		return 0, api.ErrPrefix
	}
	v, ok := m[p]
	if !ok {
		return 0, api.ErrNone
	}
	return v, api.OK
}

func (m model) del(p api.Prefix) (int, api.Errno) {
	v, e := m.get(p)
	if e == api.OK {
		delete(m, p)
	}
	return v, e
}

func (m model) find(a api.Addr) (api.Prefix, int, api.Errno) {
	best := api.Prefix{Len: -1}
	for p := range m {
		if holds(p, a) && p.Len > best.Len {
			best = p
		}
	}
	if best.Len < 0 {
		return api.Prefix{}, 0, api.ErrNone
	}
	return best, m[best], api.OK
}

func (m model) within(p api.Prefix) []pair {
	if !valid(p) {
		return nil
	}
	var list []pair
	for q, v := range m {
		if inside(q, p) {
			list = append(list, pair{q, v})
		}
	}
	slices.SortFunc(list, func(x, y pair) int {
		return cmp.Or(cmp.Compare(x.p.Addr, y.p.Addr), cmp.Compare(x.p.Len, y.p.Len))
	})
	return list
}

// some tells whether a prefix inside p has a value.
func (m model) some(p api.Prefix) bool {
	for q := range m {
		if inside(q, p) {
			return true
		}
	}
	return false
}

// needs tells whether a prefix has a node.
func (m model) needs(p api.Prefix) bool {
	if _, ok := m[p]; ok {
		return true
	}
	if p.Len == 32 {
		return false
	}
	low := api.Prefix{Addr: p.Addr, Len: p.Len + 1}
	high := api.Prefix{Addr: p.Addr + 1<<(31-p.Len), Len: p.Len + 1}
	return m.some(low) && m.some(high)
}

// nodes asks of every prefix that another one with a value is inside: no other has a value or a fork.
func (m model) nodes() int {
	asked := map[api.Prefix]bool{}
	n := 0
	for q := range m {
		for l := range q.Len + 1 {
			p := cut(q.Addr, l)
			if !asked[p] && m.needs(p) {
				n++
			}
			asked[p] = true
		}
	}
	return n
}

// checkCounts holds Len and Nodes against the model.
func checkCounts(t *testing.T, x *Trie[int], m model) {
	t.Helper()
	if n := x.Len(); n != len(m) {
		t.Fatalf("P8.4: Len() = %d, want %d, of %v", n, len(m), m)
	}
	if n := x.Nodes(); n != m.nodes() {
		t.Fatalf("P8.4: Nodes() = %d, want %d, of %v", n, m.nodes(), m)
	}
}

// checkGet holds Get of a prefix against the model.
func checkGet(t *testing.T, x *Trie[int], m model, p api.Prefix) {
	t.Helper()
	v, e := x.Get(p)
	if w, f := m.get(p); v != w || e != f {
		t.Fatalf("P8.1: Get(%v) = %d, %d, want %d, %d, of %v", p, v, e, w, f, m)
	}
}

// checkFind holds Find of an address against the model.
func checkFind(t *testing.T, x *Trie[int], m model, a api.Addr) {
	t.Helper()
	p, v, e := x.Find(a)
	if q, w, f := m.find(a); p != q || v != w || e != f {
		t.Fatalf("P8.2: Find(%s) = %v, %d, %d, want %v, %d, %d, of %v", addr.Format(a), p, v, e, q, w, f, m)
	}
}

// checkWithin holds Within of a prefix against the model.
func checkWithin(t *testing.T, x *Trie[int], m model, p api.Prefix) {
	t.Helper()
	if l := told(x.Within(p)); !slices.Equal(l, m.within(p)) {
		t.Fatalf("P8.3: Within(%v) told %v, want %v", p, l, m.within(p))
	}
}

// checkAll holds All against the model.
func checkAll(t *testing.T, x *Trie[int], m model) {
	t.Helper()
	if l := told(x.All()); !slices.Equal(l, m.within(api.Prefix{})) {
		t.Fatalf("P8.3: All() told %v, want %v", l, m.within(api.Prefix{}))
	}
}

// check holds all that a trie can be asked against the model: of each of the prefixes, of both its ends, and of the addresses beside them.
func check(t *testing.T, x *Trie[int], m model, asked ...api.Prefix) {
	t.Helper()
	checkCounts(t, x, m)
	checkAll(t, x, m)
	for _, p := range asked {
		checkGet(t, x, m, p)
		checkWithin(t, x, m, p)
		if valid(p) {
			for _, a := range []api.Addr{p.Addr, lastOf(p), p.Addr - 1, lastOf(p) + 1} {
				checkFind(t, x, m, a)
			}
		}
	}
}

// put puts into both, and holds the answers against each other.
func put(t *testing.T, x *Trie[int], m model, p api.Prefix, v int) {
	t.Helper()
	if e, f := x.Put(p, v), m.put(p, v); e != f {
		t.Fatalf("P8.1: Put(%v, %d) = %d, want %d", p, v, e, f)
	}
}

// del deletes from both, and holds the answers against each other.
func del(t *testing.T, x *Trie[int], m model, p api.Prefix) {
	t.Helper()
	was := maps.Clone(m)
	v, e := x.Del(p)
	if w, f := m.del(p); v != w || e != f {
		t.Fatalf("P8.1: Del(%v) = %d, %d, want %d, %d, of %v", p, v, e, w, f, was)
	}
}

// flip puts a prefix that has no value, and deletes one that has.
func flip(t *testing.T, x *Trie[int], m model, p api.Prefix, v int) {
	t.Helper()
	if _, ok := m[p]; ok {
		del(t, x, m, p)
	} else {
		put(t, x, m, p, v)
	}
}

// filled is a trie of prefixes, each with its place in the list as its value.
func filled(t *testing.T, ps ...api.Prefix) (*Trie[int], model) {
	t.Helper()
	x, m := New[int](), model{}
	for i, p := range ps {
		put(t, x, m, p, i)
	}
	return x, m
}

// family is p and all inside it down to a length.
func family(p api.Prefix, deepest int) []api.Prefix {
	list := []api.Prefix{p}
	if p.Len < deepest {
		list = append(list, family(api.Prefix{Addr: p.Addr, Len: p.Len + 1}, deepest)...)
		list = append(list, family(api.Prefix{Addr: p.Addr + 1<<(31-p.Len), Len: p.Len + 1}, deepest)...)
	}
	return list
}

// chain is every prefix that holds an address, the shortest first.
func chain(a api.Addr) []api.Prefix {
	var list []api.Prefix
	for n := range 33 {
		list = append(list, cut(a, n))
	}
	return list
}

// spread is a set of prefixes of all lengths: nested ones, neighbours, and both ends of the address space.
func spread(t *testing.T) []api.Prefix {
	t.Helper()
	var list []api.Prefix
	for _, s := range []string{
		"0.0.0.0/0", "0.0.0.0/1", "128.0.0.0/1", "0.0.0.0/2", "192.0.0.0/2", "0.0.0.0/31", "0.0.0.0/32", "0.0.0.1/32", "255.255.255.255/32", "255.255.255.254/32", "255.255.255.254/31",
		"10.0.0.0/7", "10.0.0.0/8", "11.0.0.0/8", "10.1.0.0/16", "10.1.2.0/23", "10.1.2.0/24", "10.1.3.0/24", "10.1.3.128/25", "10.1.3.7/32", "10.1.3.6/31", "127.255.255.255/32", "128.0.0.0/32",
	} {
		list = append(list, net(t, s))
	}
	return list
}

// wrong is a list of prefixes that are not valid.
func wrong() []api.Prefix {
	list := []api.Prefix{
		{Len: -1}, {Len: 33}, {Len: 34}, {Len: 64}, {Len: 65}, {Len: -32}, {Len: math.MaxInt}, {Len: math.MinInt},
		{Len: 1 << 32}, {Len: 1<<32 + 8}, {Len: 256}, {Addr: 1 << 31, Len: -1}, {Addr: math.MaxUint32, Len: 33},
	}
	for n := range 32 {
		list = append(list, api.Prefix{Addr: 1, Len: n}, api.Prefix{Addr: 1 << (31 - n), Len: n}, api.Prefix{Addr: math.MaxUint32, Len: n})
	}
	return list
}

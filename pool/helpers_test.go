package pool

import (
	"cmp"
	"math"
	"math/rand"
	"slices"
	"testing"

	"weft/addr"
	"weft/api"
)

// dice rolls the same way in every run.
func dice() *rand.Rand {
	return rand.New(rand.NewSource(10))
}

func at(t *testing.T, s string) api.Addr {
	t.Helper()
	a, e := addr.Parse(s)
	if e != api.OK {
		t.Fatalf("%s is no address: %d", s, e)
	}
	return a
}

// net reads a valid prefix.
func net(t *testing.T, s string) api.Prefix {
	t.Helper()
	p, e := addr.ParsePrefix(s)
	if e != api.OK {
		t.Fatalf("%s is no prefix: %d", s, e)
	}
	return p
}

func nets(t *testing.T, texts ...string) []api.Prefix {
	t.Helper()
	var list []api.Prefix
	for _, s := range texts {
		list = append(list, net(t, s))
	}
	return list
}

// model is the chapter's words over plain lists: it goes through the row subnet by subnet.
type model struct {
	network   api.Prefix
	sublen    int
	low, high api.Addr
	kept      []api.Prefix
	taken     []api.Prefix
}

// bit is an address's bit, counted from the highest.
func bit(a api.Addr, i int) api.Addr {
	return a >> (31 - i) & 1
}

func valid(p api.Prefix) bool {
	if p.Len < 0 || p.Len > 32 {
		return false
	}
	for i := p.Len; i < 32; i++ {
		if bit(p.Addr, i) != 0 {
			return false
		}
	}
	return true
}

// holds tells whether an address has a valid prefix's first bits.
func holds(p api.Prefix, a api.Addr) bool {
	for i := range p.Len {
		if bit(p.Addr, i) != bit(a, i) {
			return false
		}
	}
	return true
}

// inside tells whether all addresses of the valid prefix s are in the valid prefix p.
func inside(p, s api.Prefix) bool {
	last := uint64(s.Addr) + uint64(1)<<(32-s.Len) - 1
	return holds(p, s.Addr) && holds(p, api.Addr(last))
}

// modelOf is New's words.
func modelOf(network api.Prefix, sublen int, low, high api.Addr, kept ...api.Prefix) (*model, api.Errno) {
	if len(kept) > 1024 {
		return nil, api.ErrLong
	}
	if !valid(network) {
		return nil, api.ErrPrefix
	}
	if sublen < network.Len || sublen > 32 {
		return nil, api.ErrArg
	}
	if low > high {
		return nil, api.ErrArg
	}
	for _, a := range []api.Addr{low, high} {
		if !valid(api.Prefix{Addr: a, Len: sublen}) {
			return nil, api.ErrAlign
		}
	}
	for _, a := range []api.Addr{low, high} {
		if !holds(network, a) {
			return nil, api.ErrOutside
		}
	}
	for i, s := range kept {
		if s.Len != sublen || !valid(s) {
			return nil, api.ErrAlign
		}
		if !inside(network, s) {
			return nil, api.ErrOutside
		}
		if slices.Contains(kept[:i], s) {
			return nil, api.ErrDup
		}
	}
	return &model{network: network, sublen: sublen, low: low, high: high, kept: slices.Clone(kept)}, api.OK
}

// row is all subnets of the row, rising.
func (m *model) row() []api.Prefix {
	var list []api.Prefix
	for a := uint64(m.low); a <= uint64(m.high); a += uint64(1) << (32 - m.sublen) {
		list = append(list, api.Prefix{Addr: api.Addr(a), Len: m.sublen})
	}
	return list
}

// free is all subnets of the row that are neither kept nor taken, rising.
func (m *model) free() []api.Prefix {
	var list []api.Prefix
	for _, s := range m.row() {
		if !slices.Contains(m.kept, s) && !slices.Contains(m.taken, s) {
			list = append(list, s)
		}
	}
	return list
}

func (m *model) take() (api.Prefix, api.Errno) {
	free := m.free()
	if len(free) == 0 {
		return api.Prefix{}, api.ErrFull
	}
	m.taken = append(m.taken, free[0])
	return free[0], api.OK
}

func (m *model) claim(s api.Prefix) api.Errno {
	if s.Len != m.sublen || !valid(s) {
		return api.ErrAlign
	}
	if !inside(m.network, s) {
		return api.ErrOutside
	}
	if (s.Addr < m.low || s.Addr > m.high) && !slices.Contains(m.kept, s) {
		return api.ErrOutside
	}
	if slices.Contains(m.taken, s) {
		return api.ErrTaken
	}
	m.taken = append(m.taken, s)
	return api.OK
}

func (m *model) release(s api.Prefix) api.Errno {
	i := slices.Index(m.taken, s)
	if i < 0 {
		return api.ErrNone
	}
	m.taken = slices.Delete(m.taken, i, i+1)
	return api.OK
}

// all is the taken subnets, rising.
func (m *model) all() []api.Prefix {
	list := slices.Clone(m.taken)
	slices.SortFunc(list, func(x, y api.Prefix) int { return cmp.Compare(x.Addr, y.Addr) })
	return list
}

// made is a pool and its model, which both take these arguments.
func made(t *testing.T, network api.Prefix, sublen int, low, high api.Addr, kept ...api.Prefix) (*Pool, *model) {
	t.Helper()
	p, e := New(network, sublen, low, high, kept...)
	m, f := modelOf(network, sublen, low, high, kept...)
	if p == nil || e != api.OK || f != api.OK {
		t.Fatalf("New(%v, %d, %d, %d, %v) = %v, %d; the model: %d", network, sublen, low, high, kept, p, e, f)
	}
	return p, m
}

// hand is a pool of 10.0.0.0/24 with the subnets of length 28 from .low to .high, the kept ones told in the same way.
func hand(t *testing.T, low, high int, kept ...int) (*Pool, *model) {
	t.Helper()
	var list []api.Prefix
	for _, k := range kept {
		list = append(list, nth(t, k))
	}
	return made(t, net(t, "10.0.0.0/24"), 28, nth(t, low).Addr, nth(t, high).Addr, list...)
}

// nth is the n-th subnet of length 28 of 10.0.0.0/24; n may leave it.
func nth(t *testing.T, n int) api.Prefix {
	t.Helper()
	return api.Prefix{Addr: api.Addr(int(at(t, "10.0.0.0")) + 16*n), Len: 28}
}

// The calls, each of the pool and of its model, which must answer the same.

func take(t *testing.T, p *Pool, m *model) api.Prefix {
	t.Helper()
	s, e := p.Take()
	if want, f := m.take(); s != want || e != f {
		t.Fatalf("Take() = %v, %d, want %v, %d", s, e, want, f)
	}
	return s
}

func claim(t *testing.T, p *Pool, m *model, s api.Prefix) api.Errno {
	t.Helper()
	e := p.Claim(s)
	if f := m.claim(s); e != f {
		t.Fatalf("Claim(%v) = %d, want %d", s, e, f)
	}
	return e
}

func free(t *testing.T, p *Pool, m *model, s api.Prefix) api.Errno {
	t.Helper()
	e := p.Free(s)
	if f := m.release(s); e != f {
		t.Fatalf("Free(%v) = %d, want %d", s, e, f)
	}
	return e
}

// check holds what a pool tells of itself against its model; it asks twice, for a question changes nothing.
func check(t *testing.T, p *Pool, m *model) {
	t.Helper()
	for range 2 {
		if got, want := p.Taken(), m.all(); !slices.Equal(got, want) {
			t.Fatalf("Taken() = %v, want %v", got, want)
		}
		if got, want := p.Room(), len(m.free()); got != want {
			t.Fatalf("Room() = %d, want %d", got, want)
		}
	}
}

// drain takes till nothing is left, and once more.
func drain(t *testing.T, p *Pool, m *model) {
	t.Helper()
	for range p.Room() {
		take(t, p, m)
	}
	check(t, p, m)
	for range 2 {
		if s, e := p.Take(); s != (api.Prefix{}) || e != api.ErrFull {
			t.Fatalf("Take() of a full row = %v, %d", s, e)
		}
		check(t, p, m)
	}
}

// strange is prefixes that are no subnets of any pool of hand: of a wrong length, with bits behind it, without sense.
func strange(t *testing.T) []api.Prefix {
	t.Helper()
	base := at(t, "10.0.0.16")
	list := []api.Prefix{{}, {Len: 32}, {Addr: math.MaxUint32, Len: 28}, {Addr: math.MaxUint32, Len: 32}}
	for _, n := range []int{math.MinInt, -28, -1, 0, 27, 29, 31, 32, 33, 60, 28 + 32, 28 + 256, 28 + 1<<32, math.MaxInt} {
		list = append(list, api.Prefix{Addr: base, Len: n})
	}
	for i := range 4 {
		list = append(list, api.Prefix{Addr: base | 1<<i, Len: 28})
	}
	return list
}

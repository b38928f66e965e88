package ipam

import (
	"math/rand"
	"regexp"
	"slices"
	"strconv"
	"testing"

	"weft/api"
)

// dice rolls the same way in every run.
func dice() *rand.Rand {
	return rand.New(rand.NewSource(15))
}

func quad(a, b, c, d int) api.Addr {
	return api.Addr(a<<24 | b<<16 | c<<8 | d)
}

func sub(a, b, c, d, n int) api.Prefix {
	return api.Prefix{Addr: quad(a, b, c, d), Len: n}
}

// names is p0, p1 and so on.
func names(n int) []string {
	list := make([]string, n)
	for i := range list {
		list[i] = "p" + strconv.Itoa(i)
	}
	return list
}

// nameForm is what a name is, said in another way.
var nameForm = regexp.MustCompile(`\A[a-z0-9]([a-z0-9-]{0,61}[a-z0-9])?\z`)

// model is an Ipam by the chapter's words: the pods in the order in which they came, and the addresses for pods by their places from 0 on.
type model struct {
	base uint64
	size uint64 // how many addresses for pods there are
	next uint64 // the place behind that of what was given last
	pods []api.Pod
}

func modelOf(p api.Prefix) *model {
	return &model{base: uint64(p.Addr), size: 1<<(32-p.Len) - 3}
}

func (m *model) place(name string) int {
	return slices.IndexFunc(m.pods, func(p api.Pod) bool { return p.Name == name })
}

func (m *model) owner(a api.Addr) (string, api.Errno) {
	if uint64(a) < m.base || uint64(a) > m.base+m.size+2 {
		return "", api.ErrSub
	}
	for _, p := range m.pods {
		if p.Addr == a {
			return p.Name, api.OK
		}
	}
	return "", api.ErrNone
}

func (m *model) add(name string) (api.Addr, api.Errno) {
	if !nameForm.MatchString(name) {
		return 0, api.ErrName
	}
	if m.place(name) >= 0 {
		return 0, api.ErrDup
	}
	if len(m.pods) == 1024 || uint64(len(m.pods)) == m.size {
		return 0, api.ErrFull
	}
	for {
		at := m.next % m.size
		m.next = at + 1
		a := api.Addr(m.base + 2 + at)
		if _, err := m.owner(a); err == api.ErrNone {
			m.pods = append(m.pods, api.Pod{Name: name, Addr: a})
			return a, api.OK
		}
	}
}

func (m *model) find(name string) (api.Addr, api.Errno) {
	i := m.place(name)
	if i < 0 {
		return 0, api.ErrNone
	}
	return m.pods[i].Addr, api.OK
}

func (m *model) del(name string) (api.Addr, api.Errno) {
	a, err := m.find(name)
	if err == api.OK {
		i := m.place(name)
		m.pods = slices.Delete(m.pods, i, i+1)
	}
	return a, err
}

func (m *model) list() []api.Pod {
	list := slices.Clone(m.pods)
	slices.SortFunc(list, func(p, q api.Pod) int { return int(p.Addr) - int(q.Addr) })
	return list
}

// both is an Ipam beside its model: each call asks both, and holds their answers against each other.
type both struct {
	t *testing.T
	p *Ipam
	m *model
}

func begun(t *testing.T, s api.Prefix) both {
	t.Helper()
	p, err := New(s)
	if p == nil || err != api.OK {
		t.Fatalf("P15.1: New(%v) = %v, %d", s, p, err)
	}
	return both{t, p, modelOf(s)}
}

func (b both) add(name string) (api.Addr, api.Errno) {
	b.t.Helper()
	a, err := b.p.Add(name)
	if c, want := b.m.add(name); a != c || err != want {
		b.t.Fatalf("P15.2: Add(%q) = %x, %d, want %x, %d", name, a, err, c, want)
	}
	return a, err
}

func (b both) del(name string) (api.Addr, api.Errno) {
	b.t.Helper()
	a, err := b.p.Del(name)
	if c, want := b.m.del(name); a != c || err != want {
		b.t.Fatalf("P15.3: Del(%q) = %x, %d, want %x, %d", name, a, err, c, want)
	}
	return a, err
}

func (b both) find(name string) (api.Addr, api.Errno) {
	b.t.Helper()
	a, err := b.p.Find(name)
	if c, want := b.m.find(name); a != c || err != want {
		b.t.Fatalf("P15.4: Find(%q) = %x, %d, want %x, %d", name, a, err, c, want)
	}
	return a, err
}

func (b both) owner(a api.Addr) (string, api.Errno) {
	b.t.Helper()
	name, err := b.p.Owner(a)
	if n, want := b.m.owner(a); name != n || err != want {
		b.t.Fatalf("P15.5: Owner(%x) = %q, %d, want %q, %d", a, name, err, n, want)
	}
	return name, err
}

func (b both) list() []api.Pod {
	b.t.Helper()
	got, want := b.p.List(), b.m.list()
	if !slices.Equal(got, want) {
		b.t.Fatalf("P15.6: List = %v, want %v", got, want)
	}
	return got
}

// check asks for all that an Ipam holds. Nothing of it changes anything.
func (b both) check() both {
	b.t.Helper()
	for _, pod := range b.list() {
		b.find(pod.Name)
		b.owner(pod.Addr)
	}
	base, last := api.Addr(b.m.base), api.Addr(b.m.base+b.m.size+2)
	for _, a := range []api.Addr{base - 1, base, base + 1, base + 2, last - 1, last, last + 1} {
		b.owner(a)
	}
	if got := b.p.Gateway(); got != base+1 {
		b.t.Fatalf("P15.7: Gateway = %x, want %x", got, base+1)
	}
	return b
}

// adds gives pods addresses, each the one that is said.
func (b both) adds(list []string, addrs ...api.Addr) both {
	b.t.Helper()
	for i, name := range list {
		if a, err := b.add(name); a != addrs[i] || err != api.OK {
			b.t.Fatalf("P15.2: Add(%q) = %x, %d, want %x", name, a, err, addrs[i])
		}
	}
	return b
}

// filled gives so many pods addresses, from base + 2 on.
func (b both) filled(n int) both {
	b.t.Helper()
	for i, name := range names(n) {
		if a, err := b.add(name); a != api.Addr(b.m.base)+2+api.Addr(i) || err != api.OK {
			b.t.Fatalf("P15.2: pod %d has %x, %d", i, a, err)
		}
	}
	return b
}

// dels takes pods away, of which each was there.
func (b both) dels(list ...string) both {
	b.t.Helper()
	for _, name := range list {
		if _, err := b.del(name); err != api.OK {
			b.t.Fatalf("P15.3: Del(%q) = %d", name, err)
		}
	}
	return b
}

// next gives a pod that is new an address, the one that is said.
func (b both) next(name string, want api.Addr) both {
	b.t.Helper()
	return b.adds([]string{name}, want)
}

// full tells that no pod gets an address any more.
func (b both) full() both {
	b.t.Helper()
	if a, err := b.add("one-more"); a != 0 || err != api.ErrFull {
		b.t.Fatalf("P15.2: one more: %x, %d", a, err)
	}
	return b
}

package ipam

import (
	"math"
	"math/rand"
	"slices"
	"strings"
	"sync"
	"testing"

	"weft/api"
)

// The chapter's examples, step by step.
func TestP15_2Examples(t *testing.T) {
	at := func(d int) api.Addr { return quad(10, 5, 1, d) }
	for _, p := range []api.Prefix{sub(10, 5, 1, 0, 31), sub(10, 5, 1, 0, 0), sub(10, 5, 1, 4, 24)} {
		if m, err := New(p); m != nil || err != api.ErrSub {
			t.Errorf("P15.1: New(%v) = %v, %d", p, m, err)
		}
	}
	m, _ := New(sub(10, 5, 1, 4, 30))
	is := func(a api.Addr, err api.Errno) func(api.Addr, api.Errno) {
		return func(want api.Addr, wantErr api.Errno) {
			t.Helper()
			if a != want || err != wantErr {
				t.Errorf("P15.2: %x, %d, want %x, %d", a, err, want, wantErr)
			}
		}
	}
	owner := func(a api.Addr, want string, wantErr api.Errno) {
		t.Helper()
		if name, err := m.Owner(a); name != want || err != wantErr {
			t.Errorf("P15.5: Owner(%x) = %q, %d", a, name, err)
		}
	}
	is(m.Add("a"))(at(6), api.OK)
	is(m.Add("b"))(0, api.ErrFull)
	is(m.Add("a"))(0, api.ErrDup)
	is(m.Add("-a"))(0, api.ErrName)
	is(m.Add(""))(0, api.ErrName)
	is(m.Add("A"))(0, api.ErrName)
	owner(at(6), "a", api.OK)
	owner(at(5), "", api.ErrNone)
	owner(at(8), "", api.ErrSub)
	is(m.Del("a"))(at(6), api.OK)
	is(m.Add("b"))(at(6), api.OK)
	m, _ = New(sub(10, 5, 1, 0, 29))
	is(m.Add("a"))(at(2), api.OK)
	is(m.Add("b"))(at(3), api.OK)
	is(m.Add("c"))(at(4), api.OK)
	is(m.Del("a"))(at(2), api.OK)
	is(m.Add("d"))(at(5), api.OK)
	is(m.Add("e"))(at(6), api.OK)
	is(m.Add("f"))(at(2), api.OK)
	is(m.Add("g"))(0, api.ErrFull)
	is(m.Del("d"))(at(5), api.OK)
	is(m.Del("c"))(at(4), api.OK)
	is(m.Add("g"))(at(4), api.OK)
	is(m.Find("g"))(at(4), api.OK)
	is(m.Find("d"))(0, api.ErrNone)
	is(m.Gateway(), api.OK)(at(1), api.OK)
}

// anyName is mostly one of a few names, sometimes any text.
func anyName(r *rand.Rand, few int) string {
	if r.Intn(8) > 0 {
		return names(few)[r.Intn(few)]
	}
	b := make([]byte, r.Intn(70))
	for i := range b {
		b[i] = "abz059--`{/:_A\x00\x80\xff"[r.Intn(7+r.Intn(11))]
	}
	return string(b)
}

// anyAddr is mostly one of the subnet or about its ends.
func anyAddr(r *rand.Rand, m *model) api.Addr {
	switch r.Intn(6) {
	case 0:
		return api.Addr(r.Uint32())
	case 1:
		return []api.Addr{0, 1, 1 << 31, math.MaxUint32}[r.Intn(4)]
	case 2:
		return api.Addr(m.base + m.size + uint64(r.Intn(6)))
	}
	return api.Addr(m.base) + api.Addr(r.Intn(30)) - 3
}

// step asks an Ipam and its model anything.
func step(r *rand.Rand, b both, few int) {
	b.t.Helper()
	switch r.Intn(10) {
	case 0, 1, 2, 3:
		b.add(anyName(r, few))
	case 4, 5, 6:
		b.del(anyName(r, few))
	case 7:
		b.find(anyName(r, few))
	case 8:
		b.owner(anyAddr(r, b.m))
	case 9:
		b.list()
	}
}

func anySub(r *rand.Rand) api.Prefix {
	n := 26 + r.Intn(5)
	if r.Intn(4) == 0 {
		n = 1 + r.Intn(30)
	}
	a := []api.Addr{0, api.Addr(r.Uint32()), math.MaxUint32}[r.Intn(3)]
	return api.Prefix{Addr: a &^ (1<<(32-n) - 1), Len: n}
}

// Steps by dice, against the model.
func TestP0_1AnySteps(t *testing.T) {
	r := dice()
	for range 300 {
		b := begun(t, anySub(r))
		few := 1 + r.Intn(20)
		for range 200 {
			step(r, b, few)
		}
		b.check()
	}
}

// The same, with all asked behind each step.
func TestP0_2RefusedChangesNothing(t *testing.T) {
	r := dice()
	for range 60 {
		b := begun(t, anySub(r))
		few := 1 + r.Intn(12)
		for range 150 {
			step(r, b, few)
			b.check()
		}
	}
}

// No call panics, whatever it is given; beside an error stands nothing else.
func TestP0_1Anything(t *testing.T) {
	lens := []int{math.MinInt, math.MinInt32, -33, -32, -1, 0, 1, 2, 15, 16, 29, 30, 31, 32, 33, 63, 64, 65, math.MaxInt32, math.MaxInt}
	addrs := []api.Addr{0, 1, 2, 3, 4, 255, 256, 1<<31 - 1, 1 << 31, 1<<31 + 1, quad(10, 5, 1, 0), quad(10, 5, 1, 2), math.MaxUint32 - 3, math.MaxUint32 - 1, math.MaxUint32}
	texts := []string{"", "a", "-", "a-", "\x00", "\xff\xfe", "é", strings.Repeat("a", 63), strings.Repeat("a", 64), strings.Repeat("-", 100000), strings.Repeat("\xff", 100000)}
	for _, n := range lens {
		for _, a := range addrs {
			m, err := New(api.Prefix{Addr: a, Len: n})
			if (m == nil) != (err != api.OK) || m == nil && err != api.ErrSub {
				t.Fatalf("P0.2: New(%x/%d) = %v, %d", a, n, m, err)
			}
			if m == nil {
				continue
			}
			b := both{t, m, modelOf(api.Prefix{Addr: a, Len: n})}
			for range 2 {
				for _, s := range texts {
					b.find(s)
					b.del(s)
					b.add(s)
					b.add(s)
					b.find(s)
				}
				for _, o := range addrs {
					b.owner(o)
				}
			}
			b.check()
		}
	}
}

// What is written into a list that was answered, or appended to it, is seen by nobody.
func TestP0_3ListsAreTheCallersOwn(t *testing.T) {
	for _, n := range []int{0, 1, 2, 3, 5, 100, 253} {
		b := begun(t, sub(10, 5, 1, 0, 24)).filled(n)
		one, two := b.p.List(), b.p.List()
		was := slices.Clone(two)
		for i := range one {
			one[i] = api.Pod{Name: "spoilt", Addr: 7}
		}
		whole := one[:cap(one)]
		for i := range whole {
			whole[i] = api.Pod{Name: "spoilt", Addr: 7}
		}
		_ = append(one, api.Pod{Name: "more", Addr: 8})
		if !slices.Equal(two, was) {
			t.Errorf("P0.3: another list became %v", two)
		}
		b.check()
		two = append(two, api.Pod{Name: "more", Addr: 8})
		b.add("next")
		b.check()
		if !slices.Equal(two[:n], was) || two[n] != (api.Pod{Name: "more", Addr: 8}) {
			t.Errorf("P0.3: a list became %v", two)
		}
	}
}

// A list stays as it was answered, whatever comes behind it.
func TestP0_3ListsStay(t *testing.T) {
	b := begun(t, sub(10, 5, 1, 0, 28)).filled(6)
	list := b.p.List()
	was := slices.Clone(list)
	b.dels("p0", "p3").next("x", quad(10, 5, 1, 8)).dels("p5")
	b.list()
	if !slices.Equal(list, was) {
		t.Errorf("P0.3: the list became %v", list)
	}
}

// A name that is made of bytes which are changed later stays as it was handed in.
func TestP0_3NamesStay(t *testing.T) {
	b := begun(t, sub(10, 5, 1, 0, 28))
	raw := []byte("web")
	b.next(string(raw), quad(10, 5, 1, 2))
	raw[0] = 'x'
	if name, err := b.p.Owner(quad(10, 5, 1, 2)); name != "web" || err != api.OK {
		t.Errorf("P0.3: %q, %d", name, err)
	}
	if _, err := b.p.Find("xeb"); err != api.ErrNone {
		t.Errorf("P0.3: Find(xeb) = %d", err)
	}
}

// Two of one subnet, and one of another, in turns.
func TestP0_5InTurns(t *testing.T) {
	r := dice()
	list := []both{begun(t, sub(10, 5, 1, 0, 28)), begun(t, sub(10, 5, 1, 0, 28)), begun(t, sub(10, 5, 1, 0, 29))}
	for range 3000 {
		b := list[r.Intn(len(list))]
		step(r, b, 15)
		for _, c := range list {
			c.list()
		}
	}
	for _, b := range list {
		b.check()
	}
}

// Each in a goroutine of its own: none knows of the others.
func TestP0_5AtTheSameTime(t *testing.T) {
	var wg sync.WaitGroup
	answers := make([][]api.Pod, 8)
	for i := range answers {
		wg.Go(func() {
			r := dice()
			m, _ := New(sub(10, 5, 1, 0, 26))
			for range 3000 {
				name := names(70)[r.Intn(70)]
				if r.Intn(2) == 0 {
					m.Add(name)
				} else {
					m.Del(name)
				}
			}
			answers[i] = m.List()
		})
	}
	wg.Wait()
	for i := range answers {
		if !slices.Equal(answers[i], answers[0]) {
			t.Errorf("P0.5: %v, and %v", answers[i], answers[0])
		}
	}
}

package trie

import (
	"math"
	"slices"
	"strconv"
	"strings"
	"sync"
	"testing"

	"weft/addr"
	"weft/api"
)

// Every call ends, whatever it is given, and whatever was done before.
func TestP0_1AnyArguments(t *testing.T) {
	r := dice()
	lengths := []int{-1, 0, 1, 2, 15, 31, 32, 33, 63, 64, math.MaxInt, math.MinInt}
	for range 200 {
		x, m := New[int](), model{}
		for i := range 80 {
			p := api.Prefix{Addr: api.Addr(r.Uint32()), Len: lengths[r.Intn(len(lengths))]}
			if r.Intn(2) == 0 && p.Len >= 0 && p.Len <= 32 {
				p = cut(p.Addr, p.Len)
			}
			switch r.Intn(3) {
			case 0, 1:
				put(t, x, m, p, i)
			case 2:
				del(t, x, m, p)
			}
			checkGet(t, x, m, p)
			checkFind(t, x, m, p.Addr)
			checkWithin(t, x, m, p)
		}
		checkCounts(t, x, m)
	}
}

// Beside an error stand zero values alone, and a call that is refused changes nothing: in a trie whose zero value is nobody's value.
func TestP0_2ZeroBesideErrors(t *testing.T) {
	x := New[string]()
	for _, s := range []string{"10.1.2.0/24", "10.1.3.0/24", "10.0.0.0/7"} {
		x.Put(net(t, s), s)
	}
	for _, p := range append(wrong(), net(t, "10.1.2.0/23"), net(t, "10.0.0.0/8"), net(t, "10.1.2.0/25"), api.Prefix{}) {
		if v, e := x.Get(p); v != "" || e == api.OK {
			t.Errorf("Get(%v): %q, %d", p, v, e)
		}
		if v, e := x.Del(p); v != "" || e == api.OK {
			t.Errorf("Del(%v): %q, %d", p, v, e)
		}
	}
	if p, v, e := x.Find(at(t, "12.0.0.0")); p != (api.Prefix{}) || v != "" || e != api.ErrNone {
		t.Errorf("Find: %v, %q, %d", p, v, e)
	}
	for p, v := range x.All() {
		if s, _ := addr.FormatPrefix(p); s != v {
			t.Errorf("%s has %q", s, v)
		}
	}
	if x.Len() != 3 || x.Nodes() != 4 {
		t.Errorf("%d, %d", x.Len(), x.Nodes())
	}
}

// story plays one row of steps, and tells all answers as a text.
func story(x *Trie[int], seed api.Addr) string {
	var b strings.Builder
	say := func(n ...int) {
		for _, i := range n {
			b.WriteString(strconv.Itoa(i) + " ")
		}
	}
	for i := range 200 {
		p := cut((seed+api.Addr(i))*2654435761, i*7%33)
		say(int(x.Put(p, i)))
		if i%3 == 0 {
			v, e := x.Del(cut((seed+api.Addr(i/2))*2654435761, i/2*7%33))
			say(v, int(e))
		}
		q, v, e := x.Find(p.Addr + 5)
		say(int(q.Addr), q.Len, v, int(e), x.Len(), x.Nodes())
	}
	for p, v := range x.All() {
		say(int(p.Addr), p.Len, v)
	}
	return b.String()
}

// What one trie is told another one does not hear of, neither in turn nor at the same time.
func TestP0_5TriesKnowNothingOfEachOther(t *testing.T) {
	want := []string{story(New[int](), 0), story(New[int](), 1), story(New[int](), 2), story(New[int](), 3)}
	if want[0] == want[1] {
		t.Fatal("the stories are to differ")
	}
	got := make([]string, 16)
	var wait sync.WaitGroup
	for i := range got {
		wait.Add(1)
		go func() {
			defer wait.Done()
			got[i] = story(New[int](), api.Addr(i%4))
		}()
	}
	wait.Wait()
	for i, s := range got {
		if s != want[i%4] {
			t.Errorf("the %d-th story went another way", i)
		}
	}
	x, m := filled(t, spread(t)...)
	y, n := filled(t, chain(at(t, "10.1.3.7"))...)
	ask := slices.Concat(spread(t), chain(at(t, "10.1.3.7")))
	for i, p := range ask {
		flip(t, x, m, p, i)
		flip(t, y, n, ask[len(ask)-1-i], i)
		checkCounts(t, x, m)
		checkCounts(t, y, n)
	}
	check(t, x, m, ask...)
	check(t, y, n, ask...)
}

// The way by which a trie came to its prefixes is not to be seen.
func TestP0_5TheWayIsNotSeen(t *testing.T) {
	r := dice()
	ps := spread(t)
	for range 50 {
		x, m := New[int](), model{}
		for i := range 100 {
			flip(t, x, m, ps[r.Intn(len(ps))], i)
		}
		fresh := New[int]()
		for p, v := range m {
			fresh.Put(p, v)
		}
		if !slices.Equal(told(x.All()), told(fresh.All())) || x.Nodes() != fresh.Nodes() || x.Len() != fresh.Len() {
			t.Fatalf("%v against %v", told(x.All()), told(fresh.All()))
		}
		check(t, fresh, m, ps...)
	}
}

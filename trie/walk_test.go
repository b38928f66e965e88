package trie

import (
	"iter"
	"slices"
	"testing"

	"weft/api"
)

func TestP8_3Examples(t *testing.T) {
	x := New[int]()
	for i, s := range []string{"10.0.0.0/8", "10.1.0.0/16", "10.1.2.0/24", "10.1.3.0/24"} {
		x.Put(net(t, s), i+1)
	}
	x.Del(net(t, "10.1.2.0/24"))
	if l := told(x.Within(net(t, "10.1.0.0/16"))); !slices.Equal(l, []pair{{net(t, "10.1.0.0/16"), 2}, {net(t, "10.1.3.0/24"), 4}}) {
		t.Errorf("Within(10.1.0.0/16): %v", l)
	}
	if l := told(x.Within(net(t, "10.1.2.0/23"))); !slices.Equal(l, []pair{{net(t, "10.1.3.0/24"), 4}}) {
		t.Errorf("Within(10.1.2.0/23): %v", l)
	}
	if l := told(x.All()); !slices.Equal(l, []pair{{net(t, "10.0.0.0/8"), 1}, {net(t, "10.1.0.0/16"), 2}, {net(t, "10.1.3.0/24"), 4}}) {
		t.Errorf("All(): %v", l)
	}
}

// The iterators are never nil, whatever is asked, and tell nothing where there is nothing.
func TestP8_3NeverNil(t *testing.T) {
	x := New[int]()
	if x.All() == nil {
		t.Error("All() is nil")
	}
	for _, p := range append(spread(t), wrong()...) {
		seq := x.Within(p)
		if seq == nil {
			t.Fatalf("Within(%v) is nil", p)
		}
		if l := told(seq); len(l) != 0 {
			t.Errorf("Within(%v) of an empty trie: %v", p, l)
		}
	}
	if l := told(x.All()); len(l) != 0 {
		t.Errorf("All() of an empty trie: %v", l)
	}
}

func TestP8_3NoneWithinWrongPrefixes(t *testing.T) {
	x, _ := filled(t, spread(t)...)
	for _, p := range wrong() {
		x.Within(p)(func(q api.Prefix, v int) bool {
			t.Errorf("Within(%v) told %v", p, q)
			return true
		})
	}
}

func TestP8_3Rising(t *testing.T) {
	x, m := filled(t, spread(t)...)
	checkAll(t, x, m)
	falling := spread(t)
	slices.Reverse(falling)
	y, n := filled(t, falling...)
	checkAll(t, y, n)
	list := told(x.All())
	for i := 1; i < len(list); i++ {
		if p, q := list[i-1].p, list[i].p; p.Addr > q.Addr || p.Addr == q.Addr && p.Len >= q.Len {
			t.Errorf("%v was told ahead of %v", p, q)
		}
	}
}

// Within of each kind: with a value, a fork, between two nodes, beside all, holding all, below all.
func TestP8_3WithinKinds(t *testing.T) {
	x, m := filled(t, net(t, "10.0.0.0/8"), net(t, "10.1.2.0/24"), net(t, "10.1.3.0/24"), net(t, "10.1.3.128/25"), net(t, "10.200.0.0/16"), net(t, "255.255.255.255/32"))
	for _, c := range []struct {
		s string
		n int
	}{
		{"10.0.0.0/8", 5}, {"10.1.2.0/23", 3}, {"10.1.0.0/16", 3}, {"10.0.0.0/9", 3}, {"10.128.0.0/9", 1}, {"10.200.0.0/15", 1}, {"10.1.3.0/24", 2}, {"10.1.3.0/25", 0},
		{"10.1.3.128/25", 1}, {"10.1.3.128/26", 0}, {"10.1.3.128/32", 0}, {"0.0.0.0/0", 6}, {"0.0.0.0/1", 5}, {"128.0.0.0/1", 1}, {"11.0.0.0/8", 0}, {"10.0.0.0/7", 5}, {"8.0.0.0/5", 5},
		{"10.1.4.0/24", 0}, {"10.1.0.0/23", 0}, {"255.255.255.255/32", 1}, {"255.255.255.254/32", 0}, {"255.255.255.254/31", 1}, {"10.5.2.0/24", 0}, {"10.1.2.0/32", 0},
	} {
		checkWithin(t, x, m, net(t, c.s))
		if l := told(x.Within(net(t, c.s))); len(l) != c.n {
			t.Errorf("Within(%s) told %v", c.s, l)
		}
	}
}

// Each prefix of an address as the bound, with each prefix of it (or of one beside it) as the only one there.
func TestP8_3WithinAboveAndBelow(t *testing.T) {
	a := at(t, "10.1.3.7")
	for _, p := range chain(a) {
		for i := range 33 {
			x, m := filled(t, p)
			checkWithin(t, x, m, cut(a, i))
			if i > 0 {
				checkWithin(t, x, m, cut(a^1<<(32-i), i))
			}
		}
	}
}

// The range begins when the loop does, not when the iterator is made.
func TestP8_3BeginsWithTheRange(t *testing.T) {
	x, m := New[int](), model{}
	all, some, bad := x.All(), x.Within(net(t, "10.0.0.0/8")), x.Within(api.Prefix{Len: 33})
	same := func() {
		t.Helper()
		if l := told(all); !slices.Equal(l, m.within(api.Prefix{})) {
			t.Fatalf("All told %v, want %v", l, m.within(api.Prefix{}))
		}
		if l := told(some); !slices.Equal(l, m.within(net(t, "10.0.0.0/8"))) {
			t.Fatalf("Within told %v, want %v", l, m.within(net(t, "10.0.0.0/8")))
		}
		if l := told(bad); len(l) > 0 {
			t.Fatalf("Within of Len 33 told %v", l)
		}
	}
	same()
	r := dice()
	for i := range 200 {
		flip(t, x, m, spread(t)[r.Intn(len(spread(t)))], i)
		same()
		same()
	}
}

// Left at each step, the first too: the trie is as it was, and the same iterator begins anew.
func TestP8_3LeftEarly(t *testing.T) {
	x, m := filled(t, spread(t)...)
	for _, p := range []api.Prefix{{}, net(t, "10.0.0.0/8"), net(t, "10.1.0.0/16"), net(t, "255.255.255.254/31")} {
		want := m.within(p)
		seq := x.Within(p)
		for k := range len(want) + 1 {
			var l []pair
			for q, v := range seq {
				l = append(l, pair{q, v})
				if len(l) > k {
					break
				}
			}
			if !slices.Equal(l, want[:min(k+1, len(want))]) {
				t.Errorf("Within(%v), left behind %d: %v", p, k+1, l)
			}
			checkWithin(t, x, m, p)
		}
	}
	check(t, x, m, spread(t)...)
}

// yield is called once for each that is told, and never behind its first false.
func TestP8_3YieldBehindFalse(t *testing.T) {
	x, m := filled(t, append(spread(t), chain(at(t, "10.1.3.7"))...)...)
	for k := range len(m) + 1 {
		calls := 0
		x.All()(func(api.Prefix, int) bool {
			calls++
			if calls > k+1 {
				t.Fatalf("yield was called again behind its %d-th call, which said false", k+1)
			}
			return calls <= k
		})
		if calls != min(k+1, len(m)) {
			t.Errorf("yield was called %d times, want %d", calls, min(k+1, len(m)))
		}
	}
	x.Within(net(t, "10.1.0.0/16"))(func(p api.Prefix, v int) bool {
		if p != net(t, "10.1.0.0/16") {
			t.Errorf("%v behind the first false", p)
		}
		return false
	})
}

// Del and Put in the loop's body, of each prefix at each step: of those told, of the one being told, of those not told yet, of new ones.
func TestP8_3ChangesInTheBody(t *testing.T) {
	ps := family(net(t, "10.0.0.0/8"), 11)
	for step := range 8 {
		for _, p := range ps {
			for _, change := range []func(*Trie[int], model){
				func(x *Trie[int], m model) { x.Del(p); m.del(p) },
				func(x *Trie[int], m model) { x.Put(p, 99); m.put(p, 99) },
				func(x *Trie[int], m model) { x.Del(p); x.Put(p, 98); m.put(p, 98) },
				func(x *Trie[int], m model) { x.Put(p, 97); x.Del(p); m.del(p) },
			} {
				x, m := filled(t, slices.Concat(ps[:3], ps[6:9], ps[12:])...)
				want := m.within(api.Prefix{})
				var l []pair
				for q, v := range x.All() {
					if len(l) == step {
						change(x, m)
					}
					l = append(l, pair{q, v})
				}
				if !slices.Equal(l, want) {
					t.Fatalf("a change of %v at step %d: told %v, want %v", p, step, l, want)
				}
				check(t, x, m, ps...)
			}
		}
	}
}

// Everything goes, or everything gets another value, in the first step; the loop goes on.
func TestP8_3AllChangesAtOnce(t *testing.T) {
	for _, change := range []func(*Trie[int], model, api.Prefix){
		func(x *Trie[int], m model, p api.Prefix) { x.Del(p); m.del(p) },
		func(x *Trie[int], m model, p api.Prefix) { x.Put(p, -1); m.put(p, -1) },
	} {
		for _, in := range []api.Prefix{{}, net(t, "10.0.0.0/8")} {
			x, m := filled(t, spread(t)...)
			want := m.within(in)
			seq := x.Within(in)
			var l []pair
			for q, v := range seq {
				for _, p := range spread(t) {
					change(x, m, p)
				}
				l = append(l, pair{q, v})
			}
			if !slices.Equal(l, want) {
				t.Errorf("told %v, want %v", l, want)
			}
			if l := told(seq); !slices.Equal(l, m.within(in)) {
				t.Errorf("the next range told %v, want %v", l, m.within(in))
			}
			check(t, x, m, spread(t)...)
		}
	}
}

// Changes by dice in the bodies of loops within one another, over the same iterator and over others: each loop is told what stood there when it began.
func TestP8_3AnyChanges(t *testing.T) {
	r := dice()
	ps := slices.Concat(family(net(t, "10.1.2.0/23"), 26), spread(t))
	for range 200 {
		x, m := New[int](), model{}
		for i := range 25 {
			put(t, x, m, ps[r.Intn(len(ps))], i)
		}
		var loop func(seq iter.Seq2[api.Prefix, int], in api.Prefix, deep int)
		loop = func(seq iter.Seq2[api.Prefix, int], in api.Prefix, deep int) {
			want := m.within(in)
			k := 0
			for p, v := range seq {
				if k >= len(want) || want[k] != (pair{p, v}) {
					t.Fatalf("Within(%v): the %d-th is %v, %d, want of %v", in, k, p, v, want)
				}
				k++
				flip(t, x, m, ps[r.Intn(len(ps))], 100+k)
				flip(t, x, m, p, -k)
				if deep > 0 && r.Intn(4) == 0 {
					loop(seq, in, deep-1)
				}
				if q := ps[r.Intn(len(ps))]; deep > 0 && r.Intn(6) == 0 {
					loop(x.Within(q), q, deep-1)
				}
				if r.Intn(30) == 0 {
					return
				}
			}
			if k != len(want) {
				t.Fatalf("Within(%v) told %d, want %v", in, k, want)
			}
		}
		in := ps[r.Intn(4)]
		loop(x.Within(in), in, 3)
		loop(x.All(), api.Prefix{}, 2)
		check(t, x, m, ps...)
	}
}

// Two loops within one another over the same iterator.
func TestP8_3WithinAnotherRange(t *testing.T) {
	x, m := filled(t, spread(t)...)
	seq := x.All()
	var outer []pair
	for p, v := range seq {
		outer = append(outer, pair{p, v})
		if l := told(seq); !slices.Equal(l, m.within(api.Prefix{})) {
			t.Fatalf("the inner loop of %v: %v", p, l)
		}
		for range seq {
			break
		}
	}
	if !slices.Equal(outer, m.within(api.Prefix{})) {
		t.Errorf("the outer loop: %v", outer)
	}
}

// Loops that are pulled step by step, in turn with each other and with changes, each know their own beginning.
func TestP8_3PulledInTurn(t *testing.T) {
	x, m := filled(t, spread(t)...)
	seq := x.All()
	next, stop := iter.Pull2(seq)
	defer stop()
	first := m.within(api.Prefix{})
	for i, want := range first {
		if p, v, ok := next(); !ok || want != (pair{p, v}) {
			t.Fatalf("the %d-th: %v, %d, %t, want %v", i, p, v, ok, want)
		}
		flip(t, x, m, first[len(first)-1-i].p, -i)
		checkAll(t, x, m)
	}
	if _, _, ok := next(); ok {
		t.Error("more was told than stood there")
	}
}

// A body that panics leaves the trie as it was.
func TestP8_3PanicInTheBody(t *testing.T) {
	x, m := filled(t, spread(t)...)
	seq := x.All()
	func() {
		defer func() { _ = recover() }()
		for range seq {
			panic("out")
		}
	}()
	if l := told(seq); !slices.Equal(l, m.within(api.Prefix{})) {
		t.Errorf("behind a panic: %v", l)
	}
	check(t, x, m, spread(t)...)
}

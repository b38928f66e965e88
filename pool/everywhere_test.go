package pool

import (
	"math"
	"math/rand"
	"slices"
	"sync"
	"testing"

	"weft/api"
)

// The chapter's examples, step by step.
func TestP10_2Examples(t *testing.T) {
	p, m := made(t, net(t, "10.0.0.0/8"), 24, at(t, "10.0.1.0"), at(t, "10.0.4.0"), nets(t, "10.0.2.0/24", "10.0.9.0/24")...)
	rooms(t, p, 3)
	took(t, p, m, net(t, "10.0.1.0/24"))
	took(t, p, m, net(t, "10.0.3.0/24"))
	claimed(t, p, m, api.OK, net(t, "10.0.2.0/24"))
	claimed(t, p, m, api.OK, net(t, "10.0.9.0/24"))
	claimed(t, p, m, api.ErrOutside, net(t, "10.0.8.0/24"))
	claimed(t, p, m, api.ErrTaken, net(t, "10.0.3.0/24"))
	claimed(t, p, m, api.ErrAlign, net(t, "10.0.3.0/25"))
	claimed(t, p, m, api.ErrOutside, net(t, "11.0.0.0/24"))
	rooms(t, p, 1)
	took(t, p, m, net(t, "10.0.4.0/24"))
	if s, e := p.Take(); s != (api.Prefix{}) || e != api.ErrFull {
		t.Errorf("Take() = %v, %d", s, e)
	}
	freed(t, p, m, api.OK, net(t, "10.0.1.0/24"))
	freed(t, p, m, api.ErrNone, net(t, "10.0.1.0/24"))
	freed(t, p, m, api.OK, net(t, "10.0.2.0/24"))
	took(t, p, m, net(t, "10.0.1.0/24"))
	if l := p.Taken(); !slices.Equal(l, nets(t, "10.0.1.0/24", "10.0.3.0/24", "10.0.4.0/24", "10.0.9.0/24")) {
		t.Errorf("Taken() = %v", l)
	}
	rooms(t, p, 0)
	asked(t, api.ErrArg, net(t, "10.0.0.0/8"), 24, at(t, "10.0.1.128"), at(t, "10.0.0.0"))
	asked(t, api.ErrOutside, net(t, "10.0.0.0/8"), 24, at(t, "10.0.0.0"), at(t, "11.0.0.0"))
}

// rolled is a pool of any form of which the row is short, with its model.
func rolled(t *testing.T, r *rand.Rand) (*Pool, *model) {
	t.Helper()
	sublen := r.Intn(33)
	network := api.Prefix{Len: max(0, sublen-r.Intn(6))}
	if network.Len > 0 {
		network.Addr = api.Addr(r.Uint32()) << (32 - network.Len)
	}
	if r.Intn(4) == 0 && network.Len > 0 {
		network.Addr = math.MaxUint32 << (32 - network.Len)
	}
	count := 1 << (sublen - network.Len)
	low := r.Intn(count)
	high := low + r.Intn(count-low)
	place := func(i int) api.Addr { return network.Addr + api.Addr(i)<<(32-sublen) }
	var kept []api.Prefix
	for _, i := range r.Perm(count)[:r.Intn(min(count, 8)+1)] {
		kept = append(kept, api.Prefix{Addr: place(i), Len: sublen})
	}
	return made(t, network, sublen, place(low), place(high), kept...)
}

// step does one call of the pool and of its model.
func step(t *testing.T, r *rand.Rand, p *Pool, m *model) {
	t.Helper()
	width := uint64(1) << (32 - m.sublen)
	s := api.Prefix{Addr: api.Addr(uint64(m.low) + uint64(r.Intn(36))*width - 2*width), Len: m.sublen}
	switch r.Intn(12) {
	case 0:
		s.Len += r.Intn(3) - 1
	case 1:
		s.Addr += api.Addr(r.Uint32())
	case 2:
		s = api.Prefix{Addr: api.Addr(r.Uint32()), Len: int(r.Uint64())}
	case 3, 4, 5:
		if len(m.kept) > 0 {
			s = m.kept[r.Intn(len(m.kept))]
		}
	}
	switch r.Intn(3) {
	case 0:
		take(t, p, m)
	case 1:
		claim(t, p, m, s)
	case 2:
		free(t, p, m, s)
	}
	check(t, p, m)
}

// Steps by dice, against the model.
func TestP0_1AnySteps(t *testing.T) {
	r := dice()
	for range 1500 {
		p, m := rolled(t, r)
		for range 80 {
			step(t, r, p, m)
		}
		drain(t, p, m)
	}
}

// Beside an error stands nothing else, and what is refused changes nothing.
func TestP0_2ZeroBesideErrors(t *testing.T) {
	p, m := hand(t, 4, 6, 5, 9)
	drain(t, p, m)
	before := p.Taken()
	for _, s := range append(strange(t), nth(t, 4), nth(t, 7), nth(t, 99)) {
		if e := p.Claim(s); e == api.OK {
			t.Errorf("Claim(%v) = OK", s)
		}
	}
	for _, s := range append(strange(t), nth(t, 5), nth(t, 7), nth(t, 99)) {
		if e := p.Free(s); e != api.ErrNone {
			t.Errorf("Free(%v) = %d", s, e)
		}
	}
	if s, e := p.Take(); s != (api.Prefix{}) || e != api.ErrFull {
		t.Errorf("Take() = %v, %d", s, e)
	}
	if l := p.Taken(); !slices.Equal(l, before) {
		t.Errorf("%v became %v", before, l)
	}
	check(t, p, m)
}

// The kept ones are the caller's: they stay as they were, in their order, their spare room too, and what is written into them later is not seen.
func TestP0_3KeptIsNotKept(t *testing.T) {
	room := []api.Prefix{nth(t, 7), nth(t, 3), nth(t, 4), nth(t, 12), nth(t, 5), nth(t, 6)}
	was := slices.Clone(room)
	p, m := made(t, net(t, "10.0.0.0/24"), 28, nth(t, 2).Addr, nth(t, 9).Addr, room[:4]...)
	if !slices.Equal(room, was) {
		t.Fatalf("%v became %v", was, room)
	}
	for i := range room {
		room[i] = nth(t, 2+i)
	}
	check(t, p, m)
	claimed(t, p, m, api.OK, nth(t, 12), nth(t, 3))
	drain(t, p, m)
	for i, s := range room {
		if s != nth(t, 2+i) {
			t.Errorf("the caller's list became %v", room)
		}
	}
}

// A list that New refuses stays as it was as well.
func TestP0_3RefusedKept(t *testing.T) {
	room := []api.Prefix{nth(t, 9), nth(t, 3), nth(t, 9), nth(t, 2)}
	was := slices.Clone(room)
	asked(t, api.ErrDup, net(t, "10.0.0.0/24"), 28, nth(t, 2).Addr, nth(t, 9).Addr, room[:3]...)
	if !slices.Equal(room, was) {
		t.Errorf("%v became %v", was, room)
	}
}

// Taken is the caller's own: written over and appended to, it changes nothing, neither in the pool nor in another answer.
func TestP0_3TakenIsNew(t *testing.T) {
	p, m := hand(t, 0, 15, 12)
	for n := range 9 {
		claimed(t, p, m, api.OK, nth(t, n))
		x, y := p.Taken(), p.Taken()
		want := slices.Clone(y)
		for i := range x {
			x[i] = api.Prefix{Addr: 77, Len: 7}
		}
		spare := x[:cap(x)]
		for i := range spare {
			spare[i] = api.Prefix{Addr: 78, Len: 8}
		}
		_ = append(y, api.Prefix{Addr: 79, Len: 9})
		if !slices.Equal(y, want) {
			t.Fatalf("%v became %v", want, y)
		}
		check(t, p, m)
	}
	x := p.Taken()
	want := slices.Clone(x)
	freed(t, p, m, api.OK, nth(t, 4))
	drain(t, p, m)
	if !slices.Equal(x, want) {
		t.Errorf("an earlier answer became %v", x)
	}
}

// Two pools in turns know nothing of each other, though they were given the same lists.
func TestP0_5InTurns(t *testing.T) {
	r := dice()
	for range 100 {
		p, m := hand(t, 3, 12, 1, 5, 6, 14)
		q, n := hand(t, 3, 12, 1, 5, 6, 14)
		for range 60 {
			step(t, r, p, m)
			check(t, q, n)
			step(t, r, q, n)
			check(t, p, m)
		}
	}
}

// Pools are worked at the same time: each answers as it does alone.
func TestP0_5AtTheSameTime(t *testing.T) {
	kept := []api.Prefix{nth(t, 14), nth(t, 5), nth(t, 6), nth(t, 1)}
	play := func() []api.Prefix {
		p, e := New(api.Prefix{Addr: 10 << 24, Len: 24}, 28, kept[3].Addr, kept[0].Addr, kept...)
		if e != api.OK {
			return nil
		}
		for range 6 {
			p.Take()
		}
		p.Claim(kept[1])
		p.Free(kept[3])
		p.Free(api.Prefix{Addr: 10<<24 + 3*16, Len: 28})
		p.Claim(kept[0])
		return p.Taken()
	}
	want := play()
	answers := make([][]api.Prefix, 8)
	var group sync.WaitGroup
	for i := range answers {
		group.Go(func() {
			for range 200 {
				answers[i] = play()
			}
		})
	}
	group.Wait()
	for i, l := range answers {
		if len(l) != 7 || !slices.Equal(l, want) {
			t.Errorf("pool %d: %v, want %v", i, l, want)
		}
	}
}

// The same steps give the same answers, however they came about: claims of the same set in another order.
func TestP0_5OrderOfClaims(t *testing.T) {
	r := dice()
	for range 300 {
		p, _ := hand(t, 0, 15, 3, 8)
		q, _ := hand(t, 0, 15, 8, 3)
		set := r.Perm(16)[:r.Intn(16)]
		for _, n := range set {
			p.Claim(nth(t, n))
		}
		slices.Reverse(set)
		for _, n := range set {
			q.Claim(nth(t, n))
		}
		if !slices.Equal(p.Taken(), q.Taken()) || p.Room() != q.Room() {
			t.Fatalf("%v and %v", p.Taken(), q.Taken())
		}
		x, e := p.Take()
		if y, f := q.Take(); x != y || e != f {
			t.Fatalf("Take() = %v, %d and %v, %d", x, e, y, f)
		}
	}
}

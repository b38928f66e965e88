package lease

import (
	"math"
	"slices"
	"sync"
	"testing"

	"weft/api"
)

// Steps by dice, against the model.
func TestP0_1AnySteps(t *testing.T) {
	r := dice()
	for range 1500 {
		b := made(t, rolled(r))
		for range 60 {
			b.do(anyCmd(r, b.m))
			if r.Intn(4) == 0 {
				b.check()
			}
			b.watch(b.m.rev-int64(r.Intn(9)), r.Intn(5))
			b.holder(b.m.c.Network.Addr + api.Addr(r.Intn(1<<16)) - 256)
		}
		b.check()
	}
}

// Commands and questions of any numbers at all.
func TestP0_1AnyNumbers(t *testing.T) {
	b := made(t, config())
	numbers := []int{math.MinInt, math.MinInt + 1, -1 << 40, -1, 0, 1, 2, 3, 4, 5, 63, 64, 1 << 32, 1 << 40, math.MaxInt - 1, math.MaxInt}
	for _, kind := range numbers {
		for _, host := range numbers {
			for _, n := range numbers {
				b.do(api.Cmd{Kind: kind, Host: host, N: int64(n), Subnet: api.Prefix{Addr: api.Addr(n), Len: host}})
			}
		}
		b.check()
	}
	for _, from := range numbers {
		for _, limit := range numbers {
			b.watch(int64(from), limit)
		}
	}
}

// Images and configurations of any numbers at all.
func TestP0_1AnyImages(t *testing.T) {
	numbers := []int64{math.MinInt64, -1, 0, 1, 2, 1 << 40, 1<<40 + 1, math.MaxInt64}
	for _, rev := range numbers {
		for _, now := range numbers {
			for _, n := range numbers {
				l := api.Lease{Host: int(n), Subnet: api.Prefix{Addr: api.Addr(now), Len: int(rev)}, Until: n, Rev: rev}
				e := api.Event{Rev: now, Kind: int(n), Lease: l}
				for _, img := range []api.Image{{Rev: rev, Now: now}, {Rev: rev, Now: n, Leases: []api.Lease{l, l}}, {Rev: n, Now: now, Events: []api.Event{e, e, e}}, {Rev: 3, Now: n, Leases: []api.Lease{l}, Events: []api.Event{e, e, e}}} {
					restores(t, config(), img, mayBe(config(), img))
				}
				if s, e := Restore(api.Config{Hosts: int(n), Log: int(rev), TTL: now}, api.Image{Rev: rev}); s != nil || e != api.ErrValue {
					t.Fatalf("%v, %d", s, e)
				}
			}
		}
	}
}

// Beside an error stands nothing else but Rev and Now, and what is refused changes nothing.
func TestP0_2ZeroBesideErrors(t *testing.T) {
	b := made(t, config())
	b.ok(acquire(0, x, noWish), acquire(1, x, noWish), tick(2), acquire(1, y, noWish), acquire(1, x, noWish))
	b.refused(api.ErrCmd, api.Cmd{Host: 1})
	b.refused(api.ErrArg, acquire(-1, x, nth(1)))
	b.refused(api.ErrFull, acquire(2, x, nth(1)))
	b.refused(api.ErrLease, renew(1, nth(1)))
	b.refused(api.ErrLease, release(2))
	b.refused(api.ErrArg, tick(-1))
	if a := b.s.Apply(release(2)); a != (api.Answer{Err: api.ErrLease, Rev: 4, Now: 2}) {
		t.Errorf("%+v", a)
	}
	for _, w := range []struct {
		from  int64
		limit int
	}{{-1, 1}, {0, 0}, {5, 1}, {0, 1}} {
		if l, e := b.s.Watch(w.from, w.limit); len(l) != 0 || e == api.OK {
			t.Errorf("Watch(%d, %d) = %v, %d", w.from, w.limit, l, e)
		}
	}
	if l, e := b.s.Holder(nth(3).Addr); l != none || e != api.ErrNone {
		t.Errorf("Holder = %v, %d", l, e)
	}
}

// c.Reserved is the caller's: it stays as it was, its spare room too, and what is written into it later is not seen.
func TestP11_7ReservedIsNotKept(t *testing.T) {
	for _, way := range []func(c api.Config) (*Store, api.Errno){New, func(c api.Config) (*Store, api.Errno) { return Restore(c, api.Image{}) }} {
		room := []api.Reserve{{Host: 1, Subnet: nth(1)}, {Host: 3, Subnet: nth(9)}, {Host: 0, Subnet: nth(7)}, {Host: 2, Subnet: nth(8)}}
		was := slices.Clone(room)
		c := wide(1, 3, 4, 9)
		c.Reserved = room[:2]
		s, e := way(c)
		if e != api.OK || !slices.Equal(room, was) {
			t.Fatalf("%d; %v became %v", e, was, room)
		}
		for i := range room {
			room[i] = api.Reserve{Host: 3 - i, Subnet: nth(2 + i)}
		}
		was = slices.Clone(room)
		for i, cmd := range []api.Cmd{acquire(0, x, nth(2)), acquire(1, x, nth(3)), acquire(2, x, noWish), acquire(3, x, noWish)} {
			if a, want := s.Apply(cmd), nth([]int{2, 1, 3, 9}[i]); a.Err != api.OK || a.Lease.Subnet != want {
				t.Errorf("%+v, want %v", a, want)
			}
		}
		if !slices.Equal(room, was) {
			t.Errorf("%v became %v", was, room)
		}
	}
}

// The image's lists are the caller's: they stay as they were, their spare room too, and what is written into them later is not seen.
func TestP11_7ImageIsNotKept(t *testing.T) {
	c, img := sample()
	leases := append(slices.Clone(img.Leases), held(7, x, nth(7), 7, 7), held(8, y, nth(8), 8, 8))
	events := append(slices.Clone(img.Events), removed(7, leases[0]), removed(8, leases[1]))
	wasLeases, wasEvents := slices.Clone(leases), slices.Clone(events)
	given := api.Image{Rev: img.Rev, Now: img.Now, Leases: leases[:3], Events: events[:4]}
	b := restored(t, c, given)
	b.ok(acquire(2, x, noWish), renew(1, nth(1)), release(0), tick(1))
	b.ok(acquire(0, x, noWish), tick(9))
	if !slices.Equal(leases, wasLeases) || !slices.Equal(events, wasEvents) {
		t.Fatalf("the caller's lists became %+v, %+v", leases, events)
	}
	b = restored(t, c, given)
	clear(leases)
	clear(events)
	b.check()
	b.ok(renew(1, nth(1)), release(3), tick(9))
	for i := range leases {
		if leases[i] != none {
			t.Errorf("the caller's list became %+v", leases)
		}
	}
	for i := range events {
		if events[i] != (api.Event{}) {
			t.Errorf("the caller's list became %+v", events)
		}
	}
}

// scribble writes over a list and its spare room.
func scribble[T any](list []T, junk T) {
	for i := range list[:cap(list)] {
		list[:cap(list)][i] = junk
	}
	_ = append(list, junk, junk)
}

// The lists of answers are the caller's own: written over and appended to, they change nothing, neither in the store nor in another answer.
func TestP11_7AnswersAreNew(t *testing.T) {
	r := dice()
	junkLease, junkEvent := held(77, y, nth(77), 77, 77), removed(78, held(78, y, nth(78), 78, 78))
	for range 60 {
		b := made(t, rolled(r))
		for range 30 {
			b.do(anyCmd(r, b.m))
			from := max(0, b.m.rev-int64(b.m.c.Log))
			snap, img := b.s.Snapshot(), b.s.Image()
			events, _ := b.s.Watch(from, 2)
			wantLeases, wantImage, wantEvents := slices.Clone(snap.Leases), clone(img), slices.Clone(events)
			for range 2 {
				scribble(b.s.Snapshot().Leases, junkLease)
				scribble(b.s.Image().Leases, junkLease)
				scribble(b.s.Image().Events, junkEvent)
				for limit := 1; limit < 7; limit++ {
					list, _ := b.s.Watch(from, limit)
					scribble(list, junkEvent)
					list, _ = b.s.Watch(b.m.rev, limit)
					scribble(list, junkEvent)
				}
			}
			if !slices.Equal(snap.Leases, wantLeases) || !sameImage(img, wantImage) || !slices.Equal(events, wantEvents) {
				t.Fatalf("an answer became another")
			}
			b.check()
		}
	}
}

// An earlier answer stays as it was, whatever is done to the store.
func TestP11_7AnswersStay(t *testing.T) {
	b := made(t, config())
	b.ok(acquire(0, x, noWish), acquire(1, x, noWish), acquire(3, x, noWish))
	snap, img := b.s.Snapshot(), b.s.Image()
	events, _ := b.watch(0, 9)
	wantLeases, wantImage, wantEvents := slices.Clone(snap.Leases), clone(img), slices.Clone(events)
	b.ok(tick(2), renew(0, nth(1)), acquire(1, y, noWish), release(3), tick(9), acquire(2, y, nth(2)))
	if !slices.Equal(snap.Leases, wantLeases) || !sameImage(img, wantImage) || !slices.Equal(events, wantEvents) {
		t.Errorf("%+v, %+v, %+v", snap, img, events)
	}
	back := restored(t, config(), img)
	back.has(wantLeases...)
}

// A nil list is the same as an empty one.
func TestP0_4NilLists(t *testing.T) {
	c := wide(1, 2, 2, 3)
	c.Reserved = []api.Reserve{}
	b := made(t, c)
	b.ok(acquire(0, x, noWish), release(0), acquire(1, x, noWish), release(1))
	img := b.s.Image()
	img.Leases = nil
	restored(t, c, img)
	img.Leases = []api.Lease{}
	restored(t, c, img)
}

// Two stores in turns know nothing of each other, though they were given the same lists.
func TestP0_5InTurns(t *testing.T) {
	r := dice()
	for range 100 {
		c := rolled(r)
		b, d := made(t, c), made(t, c)
		for range 40 {
			b.do(anyCmd(r, b.m))
			d.check()
			d.do(anyCmd(r, d.m))
			b.check()
		}
		img := b.s.Image()
		p, q := restored(t, c, img), restored(t, c, img)
		for range 20 {
			p.do(anyCmd(r, p.m))
			q.check()
			q.do(anyCmd(r, q.m))
			p.check()
			b.check()
		}
	}
}

// Stores are worked at the same time: each answers as it does alone.
func TestP0_5AtTheSameTime(t *testing.T) {
	c := wide(1, 40, 64, 200)
	c.Reserved = []api.Reserve{{Host: 5, Subnet: nth(3)}, {Host: 9, Subnet: nth(77)}}
	play := func() api.Image {
		s, _ := New(c)
		for h := range 64 {
			s.Apply(acquire(63-h, x, nth(h*7%50)))
			if h%5 == 0 {
				s.Apply(tick(1))
				s.Apply(release(63 - h/2))
			}
		}
		s, _ = Restore(c, s.Image())
		s.Apply(tick(3))
		return s.Image()
	}
	want := play()
	if len(want.Leases) == 0 || len(want.Events) == 0 {
		t.Fatalf("%+v", want)
	}
	answers := make([]api.Image, 8)
	var group sync.WaitGroup
	for i := range answers {
		group.Go(func() {
			for range 50 {
				answers[i] = play()
			}
		})
	}
	group.Wait()
	for i, img := range answers {
		if !sameImage(img, want) {
			t.Errorf("store %d: %+v, want %+v", i, img, want)
		}
	}
}

// The same steps give the same answers every time: no order of a map is to be seen.
func TestP0_5EveryTimeTheSame(t *testing.T) {
	var want api.Image
	for i := range 30 {
		s, _ := New(wide(1, 60, 60, 256))
		for h := range 60 {
			s.Apply(acquire(h*7%60, x, nth(60-h)))
		}
		s.Apply(tick(5))
		img := s.Image()
		if i == 0 {
			want = img
		}
		if !sameImage(img, want) || len(img.Events) != 120 {
			t.Fatalf("%+v, want %+v", img, want)
		}
	}
}

// Many steps leave nothing behind: a store that has gone through them works as fast, and keeps as little, as a new one.
func TestP0_1ManySteps(t *testing.T) {
	s, _ := New(wide(1, 9, 4, 3))
	for i := range 300000 {
		if a := s.Apply(acquire(i%4, who{pub: api.Addr(i)}, nth(1+i%9))); a.Err != api.OK {
			t.Fatalf("%+v", a)
		}
		s.Apply(release(i % 4))
		s.Apply(tick(1))
	}
	img := s.Image()
	if img.Rev != 600000 || img.Now != 300000 || len(img.Leases) != 0 || len(img.Events) != 3 {
		t.Errorf("%+v", img)
	}
	if len(s.live) != 0 || s.ends.Len() != 0 || len(s.subnets.Taken()) != 0 || cap(s.events) > 16 {
		t.Errorf("%d leases, %d deadlines, %d subnets, room for %d events", len(s.live), s.ends.Len(), len(s.subnets.Taken()), cap(s.events))
	}
}

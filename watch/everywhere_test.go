package watch

import (
	"math"
	"math/rand"
	"runtime"
	"slices"
	"sync"
	"testing"

	"weft/api"
)

// The chapter's examples, step by step.
func TestP14_4Examples(t *testing.T) {
	h, err := New(3, 10)
	if err != api.OK {
		t.Fatalf("P14.1: %d", err)
	}
	step := 0
	is := func(got, want api.Errno) {
		t.Helper()
		step++
		if got != want {
			t.Errorf("P14.2: step %d: %d, want %d", step, got, want)
		}
	}
	published := func(n int, want api.Errno, revs ...int64) {
		t.Helper()
		if m, err := h.Publish(events(revs...)...); m != n || err != want {
			t.Errorf("P14.3: Publish(%v) = %d, %d", revs, m, err)
		}
	}
	polled := func(id int, from int64, limit int, want api.Errno, revs ...int64) {
		t.Helper()
		if evs, err := h.Poll(id, from, limit); err != want || !slices.Equal(evs, events(revs...)) {
			t.Errorf("P14.4: Poll(%d, %d, %d) = %v, %d", id, from, limit, revsOf(evs), err)
		}
	}
	holds := func(id, n int, seen int64, want api.Errno) {
		t.Helper()
		if m, at, err := h.Held(id); m != n || at != seen || err != want {
			t.Errorf("P14.5: Held(%d) = %d, %d, %d", id, m, at, err)
		}
	}
	is(h.Join(0, 10), api.OK)
	is(h.Join(1, 10), api.OK)
	is(h.Join(1, 10), api.ErrDup)
	is(h.Join(2, 9), api.ErrSeq)
	is(h.Join(64, 10), api.ErrArg)
	published(2, api.OK, 11, 12)
	polled(0, 10, 1, api.OK, 11)
	polled(0, 10, 9, api.OK, 11, 12)
	polled(0, 11, 9, api.OK, 12)
	polled(0, 10, 9, api.ErrSeq)
	polled(0, 13, 9, api.ErrSeq)
	holds(0, 1, 11, api.OK)
	holds(1, 2, 10, api.OK)
	holds(2, 0, 0, api.ErrGone)
	published(0, api.ErrOrder, 14)
	published(0, api.ErrOrder, 13, 13)
	published(1, api.OK, 13, 14)
	polled(1, 10, 9, api.ErrLag)
	holds(1, 0, 0, api.ErrLag)
	polled(1, 10, 0, api.ErrArg)
	polled(0, 11, 9, api.OK, 12, 13, 14)
	is(h.Join(1, 14), api.OK)
	holds(1, 0, 14, api.OK)
	is(h.Leave(1), api.OK)
	is(h.Leave(1), api.ErrGone)
	is(h.Leave(-1), api.ErrGone)
	published(1, api.OK)
}

// near is a number about another, and sometimes any number.
func near(r *rand.Rand, n int64) int64 {
	switch r.Intn(12) {
	case 0:
		return []int64{math.MinInt64, -1, 0, 1, 1 << 32, top, math.MaxInt64}[r.Intn(7)]
	case 1:
		return int64(r.Uint64())
	case 2, 3, 4:
		return n + int64(r.Intn(7)) - 3
	}
	return n
}

// nexts is events that mostly follow on.
func nexts(r *rand.Rand, b both) []api.Event {
	n := r.Intn(4)
	if r.Intn(6) == 0 {
		n = r.Intn(2*b.m.room + 2)
	}
	rev := b.m.rev()
	evs := span(rev+1, rev+int64(n))
	if n > 0 && r.Intn(6) == 0 {
		evs[r.Intn(n)].Rev = near(r, rev+1)
	}
	return evs
}

// step asks a hub and its model anything.
func step(r *rand.Rand, b both) {
	b.t.Helper()
	id := r.Intn(6)
	if r.Intn(4) == 0 {
		id = int(near(r, int64(60+r.Intn(5))))
	}
	switch r.Intn(10) {
	case 0, 1:
		b.join(id, near(r, b.m.rev()))
	case 2:
		b.leave(id)
	case 3, 4, 5:
		b.publish(nexts(r, b)...)
	case 6, 7, 8:
		_, seen, _ := b.m.held(id)
		b.poll(id, near(r, seen+int64(r.Intn(3))), int(near(r, 3)))
	case 9:
		b.held(id)
	}
}

// Steps by dice, against the model.
func TestP0_1AnySteps(t *testing.T) {
	r := dice()
	for range 300 {
		room := 1 + r.Intn(6)
		if r.Intn(5) == 0 {
			room = 1 + r.Intn(256)
		}
		b := begun(t, room, []int64{0, 0, 1, 77, top}[r.Intn(5)])
		for range 200 {
			step(r, b)
		}
		b.check()
	}
}

// The same, with all asked behind each step.
func TestP0_2RefusedChangesNothing(t *testing.T) {
	r := dice()
	for range 30 {
		b := begun(t, 1+r.Intn(4), int64(r.Intn(3)))
		for range 150 {
			step(r, b)
			b.check()
		}
	}
}

// No call panics, whatever it is given; beside an error stands nothing else.
func TestP0_1Anything(t *testing.T) {
	numbers := []int64{math.MinInt64, math.MinInt64 + 1, -1 << 32, -65, -64, -1, 0, 1, 2, 62, 63, 64, 65, 255, 256, 257, 1 << 31, 1 << 32, top, top + 1, math.MaxInt64 - 1, math.MaxInt64}
	for _, room := range numbers {
		for _, at := range numbers {
			if h, err := New(int(room), at); (h == nil) != (err != api.OK) {
				t.Errorf("P0.2: New(%d, %d) = %v, %d", room, at, h, err)
			}
		}
	}
	b := begun(t, 2, 0).joined(0, 1, 63)
	for _, x := range numbers {
		for _, y := range numbers {
			b.join(int(x), y)
			b.publish(event(x), event(y))
			b.publish(event(y))
			b.held(int(x))
			for _, z := range numbers {
				if evs, err := b.poll(int(x), y, int(z)); err != api.OK && len(evs) != 0 {
					t.Errorf("P0.2: Poll(%d, %d, %d) = %v, %d", x, y, z, evs, err)
				}
			}
			b.leave(int(x))
		}
	}
	b.check()
}

// The events that are handed in stay as they were, their spare room too, and what is written into them later is not seen.
func TestP0_3EventsAreNotKept(t *testing.T) {
	for _, n := range []int{1, 2, 3, 5, 9} { // of room 5, so that some are cut off
		room := append(span(1, int64(n)), events(77, 78, 79)...)
		was := slices.Clone(room)
		b := begun(t, 5, 0).joined(0, 1, 2)
		b.publish(room[:n]...)
		if !slices.Equal(room, was) {
			t.Fatalf("P0.3: the events became %v", revsOf(room))
		}
		for i := range room {
			room[i] = api.Event{Rev: -5, Kind: 99}
		}
		b.check()
		for _, id := range []int{0, 1, 2} {
			b.poll(id, 0, 2)
			b.poll(id, min(int64(n), 2), 9)
		}
		b.publish(event(int64(n) + 1))
		for i, ev := range room {
			if ev != (api.Event{Rev: -5, Kind: 99}) {
				t.Errorf("P0.3: event %d of the caller's became %v", i, ev)
			}
		}
	}
}

// Events that are refused stay as they were as well, and nothing of them is seen later.
func TestP0_3RefusedEvents(t *testing.T) {
	b := begun(t, 5, 0).joined(0)
	list := events(1, 2, 4, 9)
	was := slices.Clone(list)
	if n, err := b.publish(list[:3]...); n != 0 || err != api.ErrOrder {
		t.Errorf("P14.3: Publish(1, 2, 4) = %d, %d", n, err)
	}
	if !slices.Equal(list, was) {
		t.Errorf("P0.3: the events became %v", revsOf(list))
	}
	b.check().more(3, 1).check()
}

// spoil writes over a list, its spare room too, and appends to it.
func spoil(list []api.Event) {
	for i := range list[:cap(list)] {
		list[:cap(list)][i] = api.Event{Rev: -7, Kind: 7}
	}
	_ = append(list, api.Event{Rev: -8})
}

// The lists that are answered are new memory, each of its own.
func TestP0_3AnswersAreNew(t *testing.T) {
	for n := range 9 {
		for limit := 1; limit <= 10; limit++ {
			b := begun(t, 9, 0).joined(0, 1)
			b.more(n, 2)
			first, _ := b.poll(0, 0, limit)
			second, _ := b.poll(0, 0, limit)
			other, _ := b.poll(1, 0, limit)
			spoil(first)
			want := span(1, int64(min(n, limit)))
			if !slices.Equal(second, want) || !slices.Equal(other, want) {
				t.Fatalf("P0.3: other answers became %v, %v", revsOf(second), revsOf(other))
			}
			b.check()
			spoil(other)
			b.more(9-n, 2).check()
			b.poll(0, int64(n), 1)
			b.poll(1, 9, 1)
			b.more(n, 2).check()
			if !slices.Equal(second, want) {
				t.Fatalf("P0.3: an earlier answer became %v", revsOf(second))
			}
			spoil(second)
			b.check()
		}
	}
}

// So is a list without elements: what is appended to it when the hub has gone on is not seen.
func TestP0_3EmptyAnswers(t *testing.T) {
	for n := range 5 {
		b := begun(t, 4, 0).joined(0, 1)
		b.more(n, 2)
		none, err := b.poll(0, int64(n), 9)
		refused, _ := b.poll(0, 99, 9)
		if err != api.OK || len(none)+len(refused) != 0 {
			t.Errorf("P14.4: Poll(0, %d, 9) = %v, %d", n, none, err)
		}
		b.more(4-n, 2)
		spoil(none)
		spoil(refused)
		_ = append(append(none, event(50)), event(51))
		b.check().more(n, 2-min(n, 1))
		spoil(none)
		b.check()
	}
}

// Answers stay as they are when their watcher acknowledges, lags, leaves and joins.
func TestP0_3EarlierAnswers(t *testing.T) {
	b := begun(t, 6, 0).joined(0)
	b.more(6, 1)
	all, _ := b.poll(0, 0, 9)
	some, _ := b.poll(0, 2, 3)
	as := func() {
		t.Helper()
		if !slices.Equal(all, span(1, 6)) || !slices.Equal(some, span(3, 5)) {
			t.Fatalf("P0.3: answers became %v, %v", revsOf(all), revsOf(some))
		}
	}
	b.poll(0, 6, 1)
	as()
	b.more(6, 1)
	as()
	b.more(1, 0)
	as()
	b.joined(0).more(5, 1)
	as()
	b.leave(0)
	b.joined(0).more(6, 1)
	as()
	b.check()
}

// Two hubs in turns know nothing of each other, though they are given the same lists.
func TestP0_5InTurns(t *testing.T) {
	r := dice()
	for range 20 {
		b, c := begun(t, 1+r.Intn(5), 3), begun(t, 1+r.Intn(5), 3)
		for range 80 {
			step(r, b)
			c.check()
			step(r, c)
			b.check()
			if b.m.rev() == c.m.rev() {
				evs := nexts(r, b)
				b.publish(evs...)
				c.publish(evs...)
			}
		}
	}
}

// tale is all that a hub answers to the same calls.
func tale(seed int64) []int64 {
	r := rand.New(rand.NewSource(seed))
	h, _ := New(7, 0)
	var told []int64
	rev := int64(0)
	for range 250 {
		id := r.Intn(64)
		told = append(told, int64(h.Join(id, rev)))
		n := int64(r.Intn(4))
		live, _ := h.Publish(span(rev+1, rev+n)...)
		rev += n
		evs, err := h.Poll(r.Intn(64), rev-int64(r.Intn(7)), 5)
		told = append(append(told, int64(live), int64(err)), revsOf(evs)...)
	}
	return told
}

// No answer hangs on how goroutines run: few processors, many, and hubs at the same time answer as one alone does.
func TestP0_5HoweverGoroutinesRun(t *testing.T) {
	want := tale(1)
	for _, n := range []int{1, 2, 8} {
		was := runtime.GOMAXPROCS(n)
		for range 3 {
			if !slices.Equal(tale(1), want) {
				t.Errorf("P0.5: with %d processors the answers are others", n)
			}
		}
		runtime.GOMAXPROCS(was)
	}
	var group sync.WaitGroup
	for range 8 {
		group.Go(func() {
			if !slices.Equal(tale(1), want) {
				t.Error("P0.5: at the same time the answers are others")
			}
		})
	}
	group.Wait()
}

// Behind each kind of call no goroutine is left.
func TestP14_6NoGoroutineIsLeft(t *testing.T) {
	before := runtime.NumGoroutine()
	b := begun(t, 4, 0)
	for id := range 64 {
		b.joined(id)
	}
	for _, call := range []func(){
		func() { b.publish() },
		func() { b.more(1, 64) },
		func() { b.publish(event(1)) },
		func() { b.publish(events(2, 3, 5)...) },
		func() { b.more(3, 64) },
		func() { b.poll(0, 4, 9); b.poll(1, 2, 9); b.poll(2, 9, 9); b.poll(3, 4, 0) },
		func() { b.more(1, 2) },
		func() { b.more(2, 1) },
		func() { b.more(30, 0) },
		func() { b.more(1, 0) },
		func() { b.joined(0, 1, 2).more(100, 0) },
		func() { b.leave(0); b.leave(0); b.join(-1, 0); b.held(3) },
	} {
		call()
		settled(t, before)
	}
}

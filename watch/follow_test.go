package watch

import (
	"math/rand"
	"slices"
	"testing"

	"weft/api"
)

// follower polls on and on, each time from the last event that it was handed.
type follower struct {
	both
	id    int
	began int64
	last  int64
	got   []api.Event
}

// follow lets a follower in.
func follow(b both, id int) *follower {
	b.t.Helper()
	b.joined(id)
	return &follower{both: b, id: id, began: b.m.rev(), last: b.m.rev()}
}

// on polls once more, and tells how many events came.
func (f *follower) on(limit int) int {
	f.t.Helper()
	evs, err := f.poll(f.id, f.last, limit)
	if err != api.OK || len(evs) > limit {
		f.t.Fatalf("P14.6: Poll(%d, %d, %d) = %v, %d", f.id, f.last, limit, revsOf(evs), err)
	}
	f.got = append(f.got, evs...)
	if len(evs) > 0 {
		f.last = evs[len(evs)-1].Rev
	}
	return len(evs)
}

// hasAll polls till nothing more comes, and holds all that came against what was published.
func (f *follower) hasAll(limit int) {
	f.t.Helper()
	for f.on(limit) > 0 {
	}
	if want := span(f.began+1, f.m.rev()); !slices.Equal(f.got, want) {
		f.t.Fatalf("P14.6: watcher %d was handed %v, want %v", f.id, revsOf(f.got), revsOf(want))
	}
}

// With each limit, over Publishes of each length: all events, in order, once.
func TestP14_6EveryLimit(t *testing.T) {
	for limit := 1; limit <= 12; limit++ {
		for n := 1; n <= limit; n++ {
			b := begun(t, 2*limit, 70)
			f := follow(b, 4)
			for range 25 {
				b.more(n, 1)
				f.on(limit)
			}
			f.hasAll(limit)
		}
	}
}

// meddle lets another watcher do anything.
func meddle(b both, r *rand.Rand, id int) {
	switch r.Intn(4) {
	case 0:
		b.join(id, b.m.rev())
	case 1:
		b.leave(id)
	case 2:
		b.poll(id, b.m.rev()-int64(r.Intn(8)), 1+r.Intn(5))
	case 3:
		b.held(id)
	}
}

// While others join, leave, poll and lag.
func TestP14_6OthersDoAnything(t *testing.T) {
	r := dice()
	for range 40 {
		room := 2 + r.Intn(30)
		b := begun(t, room, int64(r.Intn(5)))
		b.more(r.Intn(9), 0)
		f, g := follow(b, 17), follow(b, 55)
		for range 120 {
			for range r.Intn(12) {
				if id := r.Intn(64); id != 17 && id != 55 {
					meddle(b, r, id)
				}
			}
			n := r.Intn(room + 1)
			f.makeRoom(r, n)
			g.makeRoom(r, n)
			b.publish(span(b.m.rev()+1, b.m.rev()+int64(n))...)
		}
		f.hasAll(1 + r.Intn(9))
		g.hasAll(1 + r.Intn(9))
	}
}

// makeRoom polls till there is room for n events more.
func (f *follower) makeRoom(r *rand.Rand, n int) {
	f.t.Helper()
	for held, _, _ := f.held(f.id); held+n > f.m.room; held, _, _ = f.held(f.id) {
		f.on(1 + r.Intn(f.m.room+2))
	}
}

// It is what is not acknowledged that counts, handed out or not: one that was handed all, but has not polled again, lags.
func TestP14_6HandedIsNotAcknowledged(t *testing.T) {
	b := begun(t, 4, 0).joined(0, 1)
	b.more(4, 2)
	if evs, err := b.poll(0, 0, 9); err != api.OK || len(evs) != 4 {
		t.Errorf("P14.6: Poll(0, 0, 9) = %v, %d", evs, err)
	}
	b.poll(1, 4, 9)
	b.more(1, 1)
	if _, err := b.poll(0, 4, 9); err != api.ErrLag {
		t.Errorf("P14.6: Poll(0, 4, 9): %d", err)
	}
	if evs, err := b.poll(1, 4, 9); err != api.OK || !slices.Equal(evs, span(5, 5)) {
		t.Errorf("P14.6: Poll(1, 4, 9) = %v, %d", evs, err)
	}
}

// It is lagged just when what is behind its acknowledged revision becomes more than room: at any split of the events into Publishes.
func TestP14_6JustWhen(t *testing.T) {
	r := dice()
	for range 400 {
		room := 1 + r.Intn(12)
		b := begun(t, room, 5).joined(0)
		seen := int64(5)
		for {
			n := r.Intn(room + 2)
			live := b.m.rev()+int64(n)-seen <= int64(room)
			if got, _ := b.publish(span(b.m.rev()+1, b.m.rev()+int64(n))...); (got == 1) != live {
				t.Fatalf("P14.6: room %d, acknowledged %d, at %d: %d are live", room, seen, b.m.rev(), got)
			}
			if !live {
				break
			}
			seen += int64(r.Intn(int(b.m.rev()-seen) + 1))
			b.poll(0, seen, 1+r.Intn(3))
		}
		if _, err := b.poll(0, b.m.rev(), 1); err != api.ErrLag {
			t.Fatalf("P14.6: Poll of a lagged one: %d", err)
		}
	}
}

// A lagged one that joins anew follows from there on.
func TestP14_6FollowsAnew(t *testing.T) {
	b := begun(t, 3, 0).joined(2)
	b.more(9, 0)
	f := follow(b, 2)
	for range 40 {
		b.more(1, 1)
		f.on(2)
	}
	f.hasAll(1)
}

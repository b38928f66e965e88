package watch

import (
	"math"
	"slices"
	"testing"

	"weft/api"
)

func TestP14_3HowManyAreLive(t *testing.T) {
	for _, ids := range [][]int{{}, {0}, {63}, {0, 63}, {5, 9, 40}} {
		for _, n := range []int{0, 1, 2, 7} {
			b := begun(t, 7, 20).joined(ids...)
			b.more(n, len(ids)).check()
			for _, id := range ids {
				if k, seen, err := b.held(id); k != n || seen != 20 || err != api.OK {
					t.Errorf("P14.3: Held(%d) = %d, %d, %d", id, k, seen, err)
				}
			}
			b.more(0, len(ids)).check()
		}
	}
}

// All 64 hold every event, in order; and all 64 are cut off by one more.
func TestP14_3AllIDs(t *testing.T) {
	b := begun(t, 256, 0)
	for id := range 64 {
		b.joined(id)
	}
	b.more(1, 64).more(200, 64).more(54, 64).more(1, 64).check()
	want := span(1, 256)
	for id := range 64 {
		if got, err := b.h.Poll(id, 0, 1000); err != api.OK || !slices.Equal(got, want) {
			t.Errorf("P14.3: Poll(%d, 0, 1000) = %v, %d", id, revsOf(got), err)
		}
	}
	b.more(0, 64).check().more(1, 0).check()
}

// No event: nothing changes, with watchers of every kind, with and without room.
func TestP14_3NoEvent(t *testing.T) {
	b := kinds(t)
	for range 5 {
		if n, err := b.h.Publish(); n != 4 || err != api.OK {
			t.Errorf("P14.3: Publish() = %d, %d", n, err)
		}
		if n, err := b.h.Publish([]api.Event{}...); n != 4 || err != api.OK {
			t.Errorf("P14.3: Publish of an empty list = %d, %d", n, err)
		}
		b.check()
	}
	b.more(1, 4)
	if n, err := b.h.Publish(); n != 4 || err != api.OK { // 1 and 63 hold as much as they have room for
		t.Errorf("P14.3: Publish() = %d, %d", n, err)
	}
	b.check().joined(5).check()
}

// Revisions that do not follow on, at the first, in the midst and at the last event: nothing changes, and what follows on goes through then.
func TestP14_3Order(t *testing.T) {
	for _, revs := range [][]int64{
		{13}, {12}, {11}, {15}, {16}, {0}, {1}, {-1}, {-14}, {14 + 1<<32}, {14 - 1<<32}, {math.MinInt64}, {math.MaxInt64},
		{13, 14}, {15, 16}, {13, 14, 15}, {15, 14}, {0, 1}, {1, 2},
		{14, 14}, {14, 13}, {14, 16}, {14, 15, 15}, {14, 15, 14}, {14, 15, 17}, {14, 15, 0},
		{14, 13, 16}, {14, 16, 16}, {14, 14, 15}, {14, 16, 17}, {14, 16, 15}, {14, 15, 15, 16}, {14, 15, 17, 18}, {14, 15, 15, 17},
		{14, 15, 16, 17, 18, 19, 20, 22}, {14, 15, 16, 17, 18, 19, 20, 20}, {14, 15, 16, 18, 18, 19, 20, 21}, {14, 15, 16, 17, 18, 19, 20, -21},
		{14, math.MaxInt64}, {14, math.MinInt64}, {14, 15 + 1<<32}, {math.MaxInt64, math.MinInt64},
	} {
		b := kinds(t)
		if n, err := b.publish(events(revs...)...); n != 0 || err != api.ErrOrder {
			t.Errorf("P14.3: Publish(%v) = %d, %d", revs, n, err)
		}
		b.check()
		if err := b.join(4, 13); err != api.OK {
			t.Errorf("P14.3: behind Publish(%v): Join(4, 13) = %d", revs, err)
		}
		b.more(2, 3).check()
	}
}

// The same without any watcher: the order is held to all the same.
func TestP14_3OrderWithoutWatchers(t *testing.T) {
	b := begun(t, 1, 0)
	b.publish(event(0))
	b.publish(events(1, 3)...)
	b.publish(event(2))
	b.more(1, 0)
	b.publish(event(1))
	b.more(500, 0).joined(0).check()
	if _, seen, _ := b.held(0); seen != 501 {
		t.Errorf("P14.3: at revision %d", seen)
	}
}

// Of an event nothing but Rev is looked at: the others are handed on as they are.
func TestP14_3AnyFields(t *testing.T) {
	odd := []api.Event{
		{}, {Kind: math.MinInt}, {Kind: math.MaxInt}, {Kind: 77, Lease: api.Lease{Host: -1}},
		{Lease: api.Lease{Host: math.MinInt, Subnet: api.Prefix{Addr: math.MaxUint32, Len: -5}, Pub: math.MaxUint32, MAC: api.MAC{255, 255, 255, 255, 255, 255}, Until: math.MinInt64, Rev: math.MinInt64}},
		{Lease: api.Lease{Host: math.MaxInt, Subnet: api.Prefix{Addr: 1, Len: math.MaxInt}, Until: math.MaxInt64, Rev: math.MaxInt64}},
		{Kind: api.Added, Lease: api.Lease{Rev: 3}}, {Kind: api.Removed, Lease: api.Lease{Rev: 3}}, {},
	}
	for i := range odd {
		odd[i].Rev = int64(i + 1)
	}
	b := begun(t, 20, 0).joined(3, 4)
	b.publish(odd[:4]...)
	for _, ev := range odd[4:] {
		b.publish(ev)
	}
	for _, id := range []int{3, 4} {
		if got, err := b.h.Poll(id, 0, 20); err != api.OK || !slices.Equal(got, odd) {
			t.Errorf("P14.3: %v, %d", got, err)
		}
	}
	b.check()
}

// Watchers that hold room - 1, room, and would hold one more, of one Publish, of any length; the others go on to its end.
func TestP14_3Room(t *testing.T) {
	for _, room := range []int{1, 2, 3, 10, 255, 256} {
		for n := 1; n <= room+2; n += 1 + room/9 {
			b := begun(t, room, 0)
			for id := range 64 {
				b.joined(id)
			}
			b.more(room, 64)
			live := 0
			for id := range 64 {
				seen := min(int64(id), int64(room))
				b.poll(id, seen, 1)
				if int64(room)-seen+int64(n) <= int64(room) {
					live++
				}
			}
			b.more(n, live).check()
		}
	}
}

// Each falls behind at its own event in the midst of one Publish; those that do not have got all of it.
func TestP14_3LagInTheMidst(t *testing.T) {
	const room = 64
	for n := 1; n <= room+1; n++ {
		b := begun(t, room, 100)
		for id := range 64 {
			b.joined(id).more(1, id+1) // watcher id holds 64 - id events in the end
		}
		b.more(n, max(0, 64-n)).check()
		for id := range 64 {
			_, _, err := b.held(id)
			if lag := 64-id+n > room; lag != (err == api.ErrLag) {
				t.Fatalf("P14.3: %d events: Held(%d): %d", n, id, err)
			}
		}
	}
}

// Nobody has room for all: each is cut off, and the publisher goes on to the end.
func TestP14_3NobodyKeepsUp(t *testing.T) {
	for _, room := range []int{1, 2, 256} {
		for _, n := range []int{room + 1, room + 2, 2 * room, 3*room + 5, 5000} {
			if n <= room {
				continue
			}
			b := begun(t, room, 0).joined(0, 1, 2, 30, 62, 63)
			b.more(n, 0).check()
			b.joined(0, 9).more(room, 2).check()
		}
	}
}

// The last event of a Publish is the one too many.
func TestP14_3LastIsTooMany(t *testing.T) {
	for range 200 {
		b := begun(t, 5, 0).joined(1, 2, 3)
		b.more(3, 3)
		b.poll(2, 1, 1)
		if n, err := b.h.Publish(span(4, 6)...); n != 1 || err != api.OK {
			t.Fatalf("P14.3: Publish(4, 5, 6) = %d, %d", n, err)
		}
		if _, _, err := b.h.Held(1); err != api.ErrLag {
			t.Fatalf("P14.3: Held(1): %d", err)
		}
		if n, seen, err := b.h.Held(2); n != 5 || seen != 1 || err != api.OK {
			t.Fatalf("P14.3: Held(2) = %d, %d, %d", n, seen, err)
		}
	}
}

// A lagged one gets no more, though there would be room; nor does one that has left.
func TestP14_3NoMoreForLagged(t *testing.T) {
	b := begun(t, 2, 0).joined(0, 1, 2)
	b.more(2, 3)
	b.poll(1, 2, 1)
	b.leave(2)
	b.more(1, 1)
	for range 10 {
		b.poll(1, b.m.rev(), 1)
		b.more(1, 1)
		if _, err := b.poll(0, b.m.rev(), 1); err != api.ErrLag {
			t.Errorf("P14.3: Poll(0): %d", err)
		}
		if _, err := b.poll(2, b.m.rev(), 1); err != api.ErrGone {
			t.Errorf("P14.3: Poll(2): %d", err)
		}
		b.check()
	}
}

// Revisions as high as they can be.
func TestP14_3HighRevisions(t *testing.T) {
	b := begun(t, 100, top).joined(0, 63)
	b.publish(events(top+1, top+2, top+4)...)
	b.publish(event(top))
	b.more(3, 2).more(97, 2)
	b.poll(0, top+1, 5)
	b.poll(0, top, 5)
	b.poll(63, top+101, 5)
	b.check().more(1, 1).check()
	if n, seen, err := b.held(0); n != 100 || seen != top+1 || err != api.OK {
		t.Errorf("P14.3: Held(0) = %d, %d, %d", n, seen, err)
	}
	b.joined(63).more(70, 1).check()
}

// Events by the hundred thousand, and nobody who could hold them.
func TestP14_3Great(t *testing.T) {
	b := begun(t, 256, 0)
	for id := range 64 {
		b.joined(id)
	}
	b.more(400000, 0).check().joined(5).more(3, 1).check()
}

package watch

import (
	"math"
	"slices"
	"testing"

	"weft/api"
)

// Each pair of errors at once: the first that is named.
func TestP14_4Errors(t *testing.T) {
	ids := map[int]api.Errno{
		1: api.OK, 2: api.OK, 3: api.ErrLag, 4: api.ErrGone, 5: api.ErrGone, 60: api.ErrGone, 61: api.ErrLag, 62: api.OK, 63: api.OK,
		-1: api.ErrGone, 64: api.ErrGone, math.MinInt: api.ErrGone, math.MaxInt: api.ErrGone, 1<<32 + 1: api.ErrGone,
	}
	for id, kind := range ids {
		for _, from := range []int64{math.MinInt64, -1 << 32, -13, -1, 0, 1, 10, 11, 12, 13, 14, 15, 13 + 1<<32, math.MaxInt64} {
			for _, limit := range []int{math.MinInt, -1 << 32, -2, -1, 0, 1, 2, 3, 1 << 32, math.MaxInt} {
				b := kinds(t)
				_, seen, _ := b.held(id)
				want := api.OK
				switch {
				case from < 0 || limit < 1:
					want = api.ErrArg
				case kind != api.OK:
					want = kind
				case from < seen || from > 13:
					want = api.ErrSeq
				}
				evs, err := b.poll(id, from, limit)
				if err != want || err != api.OK && len(evs) != 0 {
					t.Errorf("P14.4: Poll(%d, %d, %d) = %v, %d, want %d", id, from, limit, revsOf(evs), err, want)
				}
				if n, now, held := b.held(id); err != api.OK && (now != seen || held != kind) {
					t.Errorf("P14.4: behind Poll(%d, %d, %d): Held = %d, %d, %d", id, from, limit, n, now, held)
				}
			}
		}
	}
}

// Refused ones change nothing at all.
func TestP14_4RefusedChangesNothing(t *testing.T) {
	b := kinds(t)
	b.more(1, 4)
	for _, id := range []int{-1, 1, 2, 3, 4, 5, 60, 61, 62, 63, 64} {
		for _, from := range []int64{-1, 0, 11, 15, math.MaxInt64} {
			b.poll(id, from, 9)
			b.poll(id, from, 0)
		}
		b.poll(id, 13, 0)
		b.poll(id, 14, -1)
		b.poll(id, -1, 5)
	}
	b.check()
	if n, seen, err := b.held(1); n != 2 || seen != 12 || err != api.OK {
		t.Errorf("P14.4: Held(1) = %d, %d, %d", n, seen, err)
	}
	if n, seen, err := b.held(2); n != 1 || seen != 13 || err != api.OK {
		t.Errorf("P14.4: Held(2) = %d, %d, %d", n, seen, err)
	}
}

// A lagged one stays so, whatever it polls.
func TestP14_4StaysLagged(t *testing.T) {
	b := kinds(t)
	for range 3 {
		for from := int64(0); from < 16; from++ {
			if _, err := b.poll(3, from, 9); err != api.ErrLag {
				t.Errorf("P14.4: Poll(3, %d, 9): %d", from, err)
			}
		}
		b.check()
	}
}

// From every revision that may be, with every limit: what is left, from its first on.
func TestP14_4FromAndLimit(t *testing.T) {
	for from := int64(40); from <= 50; from++ {
		for limit := 1; limit <= 12; limit++ {
			b := begun(t, 10, 40).joined(9, 10)
			b.more(10, 2)
			got, err := b.h.Poll(9, from, limit)
			want := span(from+1, min(50, from+int64(limit)))
			if err != api.OK || !slices.Equal(got, want) {
				t.Errorf("P14.4: Poll(9, %d, %d) = %v, %d", from, limit, revsOf(got), err)
			}
			if n, seen, err := b.h.Held(9); n != int(50-from) || seen != from || err != api.OK {
				t.Errorf("P14.4: behind Poll(9, %d, %d): Held(9) = %d, %d, %d", from, limit, n, seen, err)
			}
			if n, seen, err := b.h.Held(10); n != 10 || seen != 40 || err != api.OK {
				t.Errorf("P14.4: behind Poll(9, %d, %d): Held(10) = %d, %d, %d", from, limit, n, seen, err)
			}
		}
	}
}

// What is answered is still held: the same Poll gets the same answer, other calls between or not.
func TestP14_4Again(t *testing.T) {
	b := begun(t, 9, 0).joined(0, 1)
	b.more(7, 2)
	for _, limit := range []int{1, 3, 4, 5, math.MaxInt} {
		for range 4 {
			got, err := b.poll(0, 3, limit)
			if want := span(4, min(7, 3+int64(min(limit, 9)))); err != api.OK || !slices.Equal(got, want) {
				t.Errorf("P14.4: Poll(0, 3, %d) = %v, %d", limit, revsOf(got), err)
			}
			b.poll(1, 0, limit)
			b.held(0)
			b.publish()
			b.publish(event(7))
			b.join(2, 7)
			b.join(0, 7)
			b.leave(2)
		}
	}
	b.check()
}

// Behind a Publish it gets more, as far as its limit lets it.
func TestP14_4MoreBehindPublish(t *testing.T) {
	b := begun(t, 9, 0).joined(0)
	b.more(2, 1)
	for _, row := range []struct{ limit, before, after int }{{1, 1, 1}, {2, 2, 2}, {3, 2, 3}, {4, 3, 4}, {9, 4, 5}} {
		if evs, err := b.poll(0, 0, row.limit); err != api.OK || len(evs) != row.before {
			t.Errorf("P14.4: Poll(0, 0, %d) = %v, %d", row.limit, revsOf(evs), err)
		}
		if b.m.rev() < int64(row.after) {
			b.more(1, 1)
		}
		if evs, err := b.poll(0, 0, row.limit); err != api.OK || len(evs) != row.after {
			t.Errorf("P14.4: Poll(0, 0, %d) = %v, %d", row.limit, revsOf(evs), err)
		}
	}
	b.check()
}

// What is acknowledged gives room again, just as much as was let go.
func TestP14_4GivesRoom(t *testing.T) {
	for _, room := range []int{1, 2, 5, 64, 255, 256} {
		for let := range room + 1 {
			b := begun(t, room, 0).joined(0)
			b.more(room, 1)
			b.poll(0, int64(let), 1)
			b.more(let, 1)
			if n, seen, err := b.held(0); n != room || seen != int64(let) || err != api.OK {
				t.Fatalf("P14.4: room %d: Held(0) = %d, %d, %d", room, n, seen, err)
			}
			b.check().more(1, 0)
		}
	}
}

// All is acknowledged at once, by one that was not handed all of it.
func TestP14_4AcknowledgesUnseen(t *testing.T) {
	b := begun(t, 5, 0).joined(0)
	b.more(5, 1)
	if evs, err := b.poll(0, 5, 9); err != api.OK || len(evs) != 0 {
		t.Errorf("P14.4: Poll(0, 5, 9) = %v, %d", evs, err)
	}
	if _, err := b.poll(0, 4, 9); err != api.ErrSeq {
		t.Errorf("P14.4: Poll(0, 4, 9): %d", err)
	}
	b.check().more(5, 1).check()
	b.poll(0, 5, 9)
	b.poll(0, 7, 1)
	if evs, err := b.poll(0, 7, 9); err != api.OK || !slices.Equal(evs, span(8, 10)) {
		t.Errorf("P14.4: Poll(0, 7, 9) = %v, %d", revsOf(evs), err)
	}
}

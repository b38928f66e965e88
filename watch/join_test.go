package watch

import (
	"math"
	"testing"

	"weft/api"
)

// noIDs are numbers that no watcher can have.
var noIDs = []int{math.MinInt, -1 << 32, -64, -2, -1, 64, 65, 128, 256, 1 << 32, 1<<32 + 1, 1<<62 + 2, math.MaxInt}

// kinds is a hub of room 2 at revision 13: watcher 1 is live and holds 13, 2 is live and holds nothing, 3 is lagged, 4 has left, 5 has never been; so is it with 60 to 63, from the back.
func kinds(t *testing.T) both {
	b := begun(t, 2, 10).joined(1, 2, 3, 4, 63, 62, 61, 60)
	b.more(2, 8)
	for id, seen := range map[int]int64{1: 12, 63: 12, 2: 11, 62: 11} {
		b.poll(id, seen, 1)
	}
	b.leave(4)
	b.leave(60)
	b.more(1, 4)
	for _, id := range []int{2, 62} {
		b.poll(id, 13, 1)
	}
	for id, want := range map[int]api.Errno{1: api.OK, 2: api.OK, 3: api.ErrLag, 4: api.ErrGone, 5: api.ErrGone, 60: api.ErrGone, 61: api.ErrLag, 62: api.OK, 63: api.OK} {
		if _, _, err := b.held(id); err != want {
			t.Fatalf("P14.5: Held(%d): %d, want %d", id, err, want)
		}
	}
	return b.check()
}

func TestP14_2JoinIDs(t *testing.T) {
	b := begun(t, 3, 5)
	for _, id := range noIDs {
		for _, at := range []int64{5, 4, 6, -1, math.MaxInt64} {
			if err := b.h.Join(id, at); err != api.ErrArg {
				t.Errorf("P14.2: Join(%d, %d) = %d", id, at, err)
			}
		}
	}
	if n, err := b.publish(); n != 0 || err != api.OK {
		t.Errorf("P14.2: %d are live, %d", n, err)
	}
	for id := range 64 {
		if err := b.h.Join(id, 5); err != api.OK {
			t.Errorf("P14.2: Join(%d, 5) = %d", id, err)
		}
		if n, err := b.h.Publish(); n != id+1 || err != api.OK {
			t.Errorf("P14.2: %d are live behind Join(%d, 5), %d", n, id, err)
		}
		if n, seen, err := b.h.Held(id); n != 0 || seen != 5 || err != api.OK {
			t.Errorf("P14.2: Held(%d) = %d, %d, %d", id, n, seen, err)
		}
	}
	for _, id := range noIDs {
		if err := b.h.Join(id, 5); err != api.ErrArg {
			t.Errorf("P14.2: with all live: Join(%d, 5) = %d", id, err)
		}
	}
}

// Each kind of watcher at each kind of revision: the first error that is named.
func TestP14_2JoinErrors(t *testing.T) {
	ats := []int64{13, 12, 14, 10, 0, -1, 13 + 1<<32, math.MinInt64, math.MaxInt64}
	for id, want := range map[int][2]api.Errno{ // at the hub's revision, and at another
		1: {api.ErrDup, api.ErrDup}, 2: {api.ErrDup, api.ErrDup}, 3: {api.OK, api.ErrSeq}, 4: {api.OK, api.ErrSeq}, 5: {api.OK, api.ErrSeq},
		60: {api.OK, api.ErrSeq}, 61: {api.OK, api.ErrSeq}, 62: {api.ErrDup, api.ErrDup}, 63: {api.ErrDup, api.ErrDup},
		-1: {api.ErrArg, api.ErrArg}, 64: {api.ErrArg, api.ErrArg}, 67: {api.ErrArg, api.ErrArg},
	} {
		for i, at := range ats {
			b := kinds(t)
			if err := b.join(id, at); err != want[min(i, 1)] {
				t.Errorf("P14.2: Join(%d, %d) = %d, want %d", id, at, err, want[min(i, 1)])
			}
			b.check().more(1, len(b.m.seen)).check()
		}
	}
}

// A refused Join changes nothing, however often it is asked.
func TestP14_2RefusedJoins(t *testing.T) {
	b := kinds(t)
	for range 3 {
		for _, id := range []int{-1, 1, 2, 3, 4, 5, 60, 61, 62, 63, 64} {
			b.join(id, 12)
			b.join(id, 14)
		}
		b.join(1, 13)
		b.join(2, 13)
		b.check()
	}
	if n, seen, err := b.held(1); n != 1 || seen != 12 || err != api.OK {
		t.Errorf("P14.2: Held(1) = %d, %d, %d", n, seen, err)
	}
	if _, _, err := b.held(3); err != api.ErrLag {
		t.Errorf("P14.2: Held(3): %d", err)
	}
}

// A lagged one that joins begins anew: with all its room, from the hub's revision on.
func TestP14_2JoinAnew(t *testing.T) {
	b := kinds(t).joined(3)
	if n, seen, err := b.held(3); n != 0 || seen != 13 || err != api.OK {
		t.Errorf("P14.2: Held(3) = %d, %d, %d", n, seen, err)
	}
	b.check().more(1, 5).check()
	if evs, err := b.poll(3, 13, 9); err != api.OK || len(evs) != 1 || evs[0] != event(14) {
		t.Errorf("P14.4: Poll(3, 13, 9) = %v, %d", evs, err)
	}
	b.more(1, 3).check()
	b.more(1, 0).check().joined(3, 5, 61, 62).check()
	for range 5 { // lagged and joined again and again
		b.more(2, 4).more(1, 0).check().joined(3, 5, 61, 62)
	}
}

func TestP14_2LeaveEach(t *testing.T) {
	for id, want := range map[int]api.Errno{
		1: api.OK, 2: api.OK, 3: api.OK, 4: api.ErrGone, 5: api.ErrGone, 0: api.ErrGone,
		60: api.ErrGone, 61: api.OK, 62: api.OK, 63: api.OK,
	} {
		b := kinds(t)
		if err := b.leave(id); err != want {
			t.Errorf("P14.2: Leave(%d) = %d, want %d", id, err, want)
		}
		b.check()
		if _, _, err := b.held(id); err != api.ErrGone {
			t.Errorf("P14.2: Held(%d): %d", id, err)
		}
		if _, err := b.poll(id, 13, 1); err != api.ErrGone {
			t.Errorf("P14.2: Poll(%d): %d", id, err)
		}
		if err := b.leave(id); err != api.ErrGone {
			t.Errorf("P14.2: Leave(%d) again = %d", id, err)
		}
		b.check().more(1, len(b.m.seen)).check()
	}
}

func TestP14_2LeaveNoIDs(t *testing.T) {
	b := kinds(t)
	for _, id := range noIDs {
		if err := b.leave(id); err != api.ErrGone {
			t.Errorf("P14.2: Leave(%d) = %d", id, err)
		}
	}
	b.check()
}

// Who comes back holds nothing of what it held, and has acknowledged what it joined at.
func TestP14_2BackAgain(t *testing.T) {
	b := begun(t, 3, 0).joined(7, 8)
	b.more(2, 2)
	b.leave(7)
	b.joined(7)
	if n, seen, err := b.held(7); n != 0 || seen != 2 || err != api.OK {
		t.Errorf("P14.2: Held(7) = %d, %d, %d", n, seen, err)
	}
	if evs, err := b.poll(7, 2, 9); err != api.OK || len(evs) != 0 {
		t.Errorf("P14.2: Poll(7, 2, 9) = %v, %d", evs, err)
	}
	if _, err := b.poll(7, 1, 9); err != api.ErrSeq {
		t.Errorf("P14.2: Poll(7, 1, 9): %d", err)
	}
	b.check().more(2, 1).check()
	b.leave(8) // it has lagged
	b.more(1, 1).joined(8).more(1, 1).check()
	if n, seen, err := b.held(8); n != 1 || seen != 5 || err != api.OK {
		t.Errorf("P14.2: Held(8) = %d, %d, %d", n, seen, err)
	}
}

// Others come and go: a watcher does not see it.
func TestP14_2OthersGoOn(t *testing.T) {
	b := begun(t, 4, 0).joined(30)
	b.more(2, 1)
	want, _ := b.poll(30, 0, 9)
	for id := range 64 {
		if id == 30 {
			continue
		}
		b.joined(id)
		b.leave(id)
		b.joined(id)
		if got, err := b.poll(30, 0, 9); err != api.OK || len(got) != 2 || got[0] != want[0] || got[1] != want[1] {
			t.Fatalf("P14.2: Poll(30, 0, 9) = %v, %d", got, err)
		}
	}
	for id := range 64 {
		if id != 30 {
			b.leave(id)
		}
	}
	if n, seen, err := b.held(30); n != 2 || seen != 0 || err != api.OK {
		t.Errorf("P14.2: Held(30) = %d, %d, %d", n, seen, err)
	}
	b.check()
}

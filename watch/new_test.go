package watch

import (
	"math"
	"testing"

	"weft/api"
)

func TestP14_1Ranges(t *testing.T) {
	rooms := map[int]bool{
		math.MinInt: false, -256: false, -1: false, 0: false, 1: true, 2: true, 255: true, 256: true, 257: false,
		1<<32 + 1: false, 1<<62 + 1: false, math.MaxInt: false,
	}
	ats := map[int64]bool{
		math.MinInt64: false, -1 << 60: false, -1: false, 0: true, 1: true, 1 << 40: true, top - 1: true, top: true, top + 1: false,
		1 << 61: false, math.MaxInt64: false,
	}
	for room, roomOK := range rooms {
		for at, atOK := range ats {
			h, err := New(room, at)
			if roomOK && atOK {
				if h == nil || err != api.OK {
					t.Errorf("P14.1: New(%d, %d) = %v, %d", room, at, h, err)
				}
			} else if h != nil || err != api.ErrArg {
				t.Errorf("P14.1: New(%d, %d) = %v, %d", room, at, h, err)
			}
		}
	}
}

func TestP14_1AllGone(t *testing.T) {
	b := begun(t, 5, 7)
	for id := -3; id < 70; id++ {
		if n, seen, err := b.h.Held(id); n != 0 || seen != 0 || err != api.ErrGone {
			t.Errorf("P14.1: Held(%d) = %d, %d, %d", id, n, seen, err)
		}
		if evs, err := b.h.Poll(id, 7, 1); len(evs) != 0 || err != api.ErrGone {
			t.Errorf("P14.1: Poll(%d, 7, 1) = %v, %d", id, evs, err)
		}
		if err := b.h.Leave(id); err != api.ErrGone {
			t.Errorf("P14.1: Leave(%d) = %d", id, err)
		}
	}
	if n, err := b.h.Publish(); n != 0 || err != api.OK {
		t.Errorf("P14.1: Publish() = %d, %d", n, err)
	}
	b.check()
}

// The hub is at the revision that it was given: joins and events tell so.
func TestP14_1Revision(t *testing.T) {
	for _, at := range []int64{0, 1, 9, math.MaxInt32, 1 << 32, 1<<53 + 1, top - 1, top} {
		b := begun(t, 4, at)
		for _, wrong := range []int64{at - 1, at + 1, 0, -1, -at, at + 1<<32, math.MinInt64, math.MaxInt64} {
			if wrong == at {
				continue
			}
			if err := b.join(0, wrong); err != api.ErrSeq {
				t.Errorf("P14.1: at %d: Join(0, %d) = %d", at, wrong, err)
			}
			if n, err := b.publish(event(wrong + 1)); n != 0 || err != api.ErrOrder {
				t.Errorf("P14.1: at %d: Publish(%d) = %d, %d", at, wrong+1, n, err)
			}
		}
		b.joined(0).more(1, 1)
		if evs, err := b.poll(0, at, 9); err != api.OK || len(evs) != 1 || evs[0] != event(at+1) {
			t.Errorf("P14.1: at %d: %v, %d", at, evs, err)
		}
		if _, seen, _ := b.held(0); seen != at {
			t.Errorf("P14.1: at %d: acknowledged %d", at, seen)
		}
	}
}

// Of every room there may be: as many events are held, and one more is too many.
func TestP14_1EveryRoom(t *testing.T) {
	for room := 1; room <= 256; room++ {
		b := begun(t, room, 3).joined(0, 63)
		b.more(room, 2)
		b.poll(63, 4, 1)
		b.check().more(1, 1)
		if _, _, err := b.held(0); err != api.ErrLag {
			t.Errorf("P14.3: room %d: Held(0): %d", room, err)
		}
		if n, seen, err := b.held(63); n != room || seen != 4 || err != api.OK {
			t.Errorf("P14.3: room %d: Held(63) = %d, %d, %d", room, n, seen, err)
		}
		b.check().more(1, 0).check()
	}
}

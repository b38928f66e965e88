package watch

import (
	"testing"

	"weft/api"
)

func TestP14_5Each(t *testing.T) {
	b := kinds(t)
	for id, want := range map[int]struct {
		n    int
		seen int64
		err  api.Errno
	}{
		1: {1, 12, api.OK}, 2: {0, 13, api.OK}, 3: {0, 0, api.ErrLag}, 4: {0, 0, api.ErrGone}, 5: {0, 0, api.ErrGone}, 0: {0, 0, api.ErrGone},
		60: {0, 0, api.ErrGone}, 61: {0, 0, api.ErrLag}, 62: {0, 13, api.OK}, 63: {1, 12, api.OK},
	} {
		for range 3 {
			if n, seen, err := b.h.Held(id); n != want.n || seen != want.seen || err != want.err {
				t.Errorf("P14.5: Held(%d) = %d, %d, %d, want %v", id, n, seen, err, want)
			}
		}
	}
	for _, id := range noIDs {
		if n, seen, err := b.h.Held(id); n != 0 || seen != 0 || err != api.ErrGone {
			t.Errorf("P14.5: Held(%d) = %d, %d, %d", id, n, seen, err)
		}
	}
	b.check()
}

// It tells what a watcher holds behind each kind of call.
func TestP14_5Follows(t *testing.T) {
	b := begun(t, 3, 0)
	is := func(n int, seen int64, err api.Errno) {
		t.Helper()
		if m, at, e := b.held(8); m != n || at != seen || e != err {
			t.Errorf("P14.5: Held(8) = %d, %d, %d, want %d, %d, %d", m, at, e, n, seen, err)
		}
	}
	is(0, 0, api.ErrGone)
	b.more(4, 0)
	is(0, 0, api.ErrGone)
	b.joined(8)
	is(0, 4, api.OK)
	b.more(1, 1)
	is(1, 4, api.OK)
	b.more(2, 1)
	is(3, 4, api.OK)
	b.poll(8, 4, 1)
	is(3, 4, api.OK)
	b.poll(8, 5, 1)
	is(2, 5, api.OK)
	b.poll(8, 7, 1)
	is(0, 7, api.OK)
	b.publish(event(9))
	is(0, 7, api.OK)
	b.more(3, 1)
	is(3, 7, api.OK)
	b.more(1, 0)
	is(0, 0, api.ErrLag)
	b.more(1, 0)
	is(0, 0, api.ErrLag)
	b.join(8, 3)
	is(0, 0, api.ErrLag)
	b.joined(8)
	is(0, 12, api.OK)
	b.more(1, 1)
	is(1, 12, api.OK)
	b.leave(8)
	is(0, 0, api.ErrGone)
	b.joined(8)
	is(0, 13, api.OK)
}

// However often it is asked, it changes nothing.
func TestP14_5ChangesNothing(t *testing.T) {
	asked, left := kinds(t), kinds(t)
	for rev := int64(14); rev < 20; rev++ {
		for id := -1; id < 65; id++ {
			asked.h.Held(id)
			asked.h.Held(id)
		}
		n, _ := asked.publish(event(rev))
		if m, _ := left.publish(event(rev)); n != m {
			t.Errorf("P14.5: %d are live, and %d where nobody asked", n, m)
		}
	}
	asked.check()
	left.check()
}

package watch

import (
	"runtime"
	"slices"
	"sync"
	"sync/atomic"
	"testing"

	"weft/api"
)

// A hub that is shared: of those that publish the same event just one is let, and all is held once and in order.
func TestP14_6SharedPublishers(t *testing.T) {
	const last, workers = 240, 8
	b := begun(t, 256, 0).joined(0, 31, 63)
	var done [last + 1]atomic.Int64
	var group sync.WaitGroup
	for range workers {
		group.Go(func() {
			for rev := int64(1); rev <= last; rev++ {
				if n, err := b.h.Publish(event(rev)); err == api.OK && n == 3 {
					done[rev].Add(1)
				} else if err != api.ErrOrder || n != 0 {
					t.Errorf("P14.3: Publish(%d) = %d, %d", rev, n, err)
				}
			}
		})
	}
	group.Wait()
	for rev := 1; rev <= last; rev++ {
		if n := done[rev].Load(); n != 1 {
			t.Errorf("P14.3: %d was published %d times", rev, n)
		}
	}
	b.m.publish(span(1, last))
	b.check()
}

// atOnce lets goroutines do something as nearly at the same time as can be, and waits for them.
func atOnce(n int, do func(i int)) {
	var ready atomic.Int64
	var group sync.WaitGroup
	for i := range n {
		group.Go(func() {
			ready.Add(1)
			for ready.Load() < int64(n) {
				runtime.Gosched()
			}
			do(i)
		})
	}
	group.Wait()
}

// Of those that join the same id just one is let, and of those that leave.
func TestP14_2SharedJoins(t *testing.T) {
	h := begun(t, 4, 9).h
	for range 20000 {
		var in, out atomic.Int64
		atOnce(4, func(int) {
			if h.Join(5, 9) == api.OK {
				in.Add(1)
			}
		})
		atOnce(4, func(int) {
			if h.Leave(5) == api.OK {
				out.Add(1)
			}
		})
		if in.Load() != 1 || out.Load() != 1 {
			t.Fatalf("P14.2: %d have joined, %d have left", in.Load(), out.Load())
		}
	}
}

// Of those that poll for one watcher each is answered as if it were alone, and Held tells of one moment.
func TestP14_4SharedPolls(t *testing.T) {
	for range 4000 {
		h := begun(t, 16, 0).joined(0).more(16, 1).h
		atOnce(4, func(i int) {
			for from := int64(0); from < 16; from++ {
				evs, err := h.Poll(0, from, 1)
				if err != api.ErrSeq && (err != api.OK || len(evs) != 1 || evs[0] != event(from+1)) {
					t.Errorf("P14.4: Poll(0, %d, 1) = %v, %d", from, evs, err)
				}
				if n, seen, err := h.Held(0); err != api.OK || int64(n)+seen != 16 {
					t.Errorf("P14.5: Held(0) = %d, %d, %d", n, seen, err)
				}
			}
		})
		if t.Failed() {
			return
		}
	}
}

// chase polls a shared hub till it has been handed the last event: each comes once and in order.
func chase(t *testing.T, h *Hub, id int, limit int, last int64) {
	at := int64(0)
	for at < last && !t.Failed() {
		evs, err := h.Poll(id, at, limit)
		if err != api.OK {
			t.Errorf("P14.6: Poll(%d, %d, %d): %d", id, at, limit, err)
			return
		}
		for _, ev := range evs {
			at++
			if ev != event(at) {
				t.Errorf("P14.6: watcher %d was handed %v at %d", id, ev, at)
				return
			}
		}
		if len(evs) == 0 {
			runtime.Gosched()
		}
	}
	h.Poll(id, last, 1)
}

// Watchers poll while another goroutine publishes, and others join and leave.
func TestP14_6SharedWatchers(t *testing.T) {
	const last, watchers = 2000, 6
	h := begun(t, 20, 0).h
	for id := range watchers {
		h.Join(id, 0)
	}
	var group sync.WaitGroup
	for id := range watchers {
		group.Go(func() { chase(t, h, id, 1+id*3, last) })
	}
	var over atomic.Bool
	var at atomic.Int64
	var others sync.WaitGroup
	for id := 10; id < 13; id++ {
		others.Go(func() {
			for !over.Load() {
				h.Join(id, at.Load())
				h.Held(id)
				h.Poll(id, at.Load(), 3)
				h.Leave(id)
				runtime.Gosched()
			}
		})
	}
	for rev := int64(1); rev <= last; {
		n := min(1+rev%7, last-rev+1)
		if !roomFor(h, watchers, int(n)) {
			if t.Failed() {
				break
			}
			runtime.Gosched()
			continue
		}
		if _, err := h.Publish(span(rev, rev+n-1)...); err != api.OK {
			t.Fatalf("P14.3: Publish behind %d: %d", rev-1, err)
		}
		rev += n
		at.Store(rev - 1)
	}
	group.Wait()
	over.Store(true)
	others.Wait()
	for id := range watchers {
		if n, seen, err := h.Held(id); n != 0 || seen != last || err != api.OK {
			t.Errorf("P14.6: Held(%d) = %d, %d, %d", id, n, seen, err)
		}
	}
}

// roomFor tells whether each of the first watchers can hold n events more.
func roomFor(h *Hub, watchers, n int) bool {
	for id := range watchers {
		if held, _, err := h.Held(id); err != api.OK || held+n > 20 {
			return false
		}
	}
	return true
}

// whole polls a hub of which events are published by sixteens, till it has them all.
func whole(t *testing.T, h *Hub) {
	for n := 0; n < 256 && !t.Failed(); {
		held, _, err := h.Held(0)
		evs, pollErr := h.Poll(0, 0, 1000)
		n = len(evs)
		if err != api.OK || pollErr != api.OK || held%16 != 0 || n%16 != 0 || n < held || !slices.Equal(evs, span(1, int64(n))) {
			t.Errorf("P14.3: Held = %d, %d, Poll = %v, %d", held, err, revsOf(evs), pollErr)
		}
		runtime.Gosched()
	}
}

// Who asks while a Publish runs sees it whole or not at all.
func TestP14_3SharedWhole(t *testing.T) {
	for range 400 {
		h := begun(t, 256, 0).joined(0).h
		atOnce(4, func(i int) {
			if i > 0 {
				whole(t, h)
				return
			}
			for rev := int64(0); rev < 256; rev += 16 {
				h.Publish(span(rev+1, rev+16)...)
			}
		})
	}
}

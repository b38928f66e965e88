package watch

import (
	"slices"
	"sync"

	"weft/api"
)

// feed is what a publisher and one watcher have between them while events are handed out.
type feed struct {
	events chan api.Event
	done   chan struct{} // closed by a watcher that takes no more
}

// send hands an event over, and tells whether the watcher took it. Only a watcher that receives makes the first case ready, only one that has ended the second: they never are at once.
func (f feed) send(ev api.Event) bool {
	select {
	case f.events <- ev:
		return true
	case <-f.done:
		return false
	}
}

// handOut hands events to watchers, each of which takes them in a goroutine of its own. All of these have ended when it returns.
func handOut(evs []api.Event, to []*watcher, room int) {
	var group sync.WaitGroup
	feeds := make([]feed, len(to))
	for i, w := range to {
		f := feed{events: make(chan api.Event), done: make(chan struct{})}
		feeds[i] = f
		group.Add(1)
		go func() {
			defer group.Done()
			w.take(f, room)
		}()
	}
	sendAll(evs, feeds)
	for _, f := range feeds {
		close(f.events)
	}
	group.Wait()
}

// sendAll sends each event to each watcher. One that has cancelled itself is not asked again.
func sendAll(evs []api.Event, feeds []feed) {
	open := slices.Clone(feeds)
	for _, ev := range evs {
		open = sendOne(ev, open)
	}
}

// sendOne sends one event, and leaves those watchers that took it.
func sendOne(ev api.Event, open []feed) []feed {
	took := open[:0]
	for _, f := range open {
		if f.send(ev) {
			took = append(took, f)
		}
	}
	return took
}

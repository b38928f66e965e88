package watch

import (
	"slices"

	"weft/api"
)

// What a watcher is. An id that nobody has joined with is gone: the zero value.
const (
	gone = iota
	live
	lagged
)

// watcher is what a hub knows under an id. Only a live one holds anything, and has acknowledged something.
type watcher struct {
	state int
	seen  int64       // all up to it is acknowledged
	held  []api.Event // those behind it, without a gap
}

// acknowledge lets go the events up to a revision, which is neither below what is acknowledged already nor above the last that is held.
func (w *watcher) acknowledge(from int64) {
	w.held = slices.Delete(w.held, 0, int(from-w.seen))
	w.seen = from
}

// first is a copy of the first events that are held, at most limit of them.
func (w *watcher) first(limit int) []api.Event {
	list := make([]api.Event, min(limit, len(w.held)))
	copy(list, w.held)
	return list
}

// take holds what is sent till no more comes, or till there is no room for it: then the watcher lags, and tells so by closing done.
func (w *watcher) take(f feed, room int) {
	for ev := range f.events {
		if len(w.held) == room {
			*w = watcher{state: lagged}
			close(f.done)
			return
		}
		w.held = append(w.held, ev)
	}
}

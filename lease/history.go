package lease

import (
	"slices"

	"weft/api"
)

// history keeps the last events, as many as its bound at most, the oldest first.
type history struct {
	bound  int
	events []api.Event
}

// record lays an event behind the others; the oldest goes, where the bound is reached.
func (h *history) record(e api.Event) {
	if len(h.events) == h.bound {
		h.events = slices.Delete(h.events, 0, 1)
	}
	h.events = append(h.events, e)
}

// kept is how many events are kept.
func (h *history) kept() int64 {
	return int64(len(h.events))
}

// newest is a copy of the last count events that are kept, but of these the first limit alone.
func (h *history) newest(count int64, limit int) []api.Event {
	from := len(h.events) - int(count)
	return slices.Clone(h.events[from : from+min(int(count), limit)])
}

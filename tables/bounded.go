package tables

import (
	"bytes"
	"cmp"
	"maps"
	"slices"

	"weft/api"
)

// bounded is a table of at most room entries, each under a key of its own.
type bounded[K comparable, E any] struct {
	room    int
	entries map[K]E
	part    func(api.Op) (K, E) // what an op says of this table: a key, and the entry that would have it
	order   func(K, K) int
}

func newNeighs(room int) *bounded[api.Addr, api.Neigh] {
	part := func(op api.Op) (api.Addr, api.Neigh) { return op.Neigh.IP, op.Neigh }
	return newBounded(room, part, cmp.Compare[api.Addr])
}

func newFdbs(room int) *bounded[api.MAC, api.Fdb] {
	part := func(op api.Op) (api.MAC, api.Fdb) { return op.Fdb.MAC, op.Fdb }
	order := func(a, b api.MAC) int { return bytes.Compare(a[:], b[:]) }
	return newBounded(room, part, order)
}

func newBounded[K comparable, E any](room int, part func(api.Op) (K, E), order func(K, K) int) *bounded[K, E] {
	return &bounded[K, E]{room: room, entries: map[K]E{}, part: part, order: order}
}

func (t *bounded[K, E]) put(op api.Op) api.Errno {
	key, entry := t.part(op)
	_, there := t.entries[key]
	if err := admit(t, t.room, there); err != api.OK {
		return err
	}
	t.entries[key] = entry
	return api.OK
}

func (t *bounded[K, E]) delete(op api.Op) api.Errno {
	key, _ := t.part(op)
	delete(t.entries, key)
	return api.OK
}

func (t *bounded[K, E]) count() int {
	return len(t.entries)
}

// get is the entry with a key, and whether there is one.
func (t *bounded[K, E]) get(key K) (E, bool) {
	entry, there := t.entries[key]
	return entry, there
}

// list tells all entries, rising by their keys.
func (t *bounded[K, E]) list() []E {
	var all []E
	for _, key := range slices.SortedFunc(maps.Keys(t.entries), t.order) {
		all = append(all, t.entries[key])
	}
	return all
}

func (t *bounded[K, E]) empty() {
	clear(t.entries)
}

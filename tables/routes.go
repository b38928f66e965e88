package tables

import (
	"weft/addr"
	"weft/api"
	"weft/trie"
)

// routes is the table of routes: a route is found by the longest match, not by its key alone.
type routes struct {
	room  int
	byDst *trie.Trie[api.Route]
}

func newRoutes(room int) *routes {
	return &routes{room: room, byDst: trie.New[api.Route]()}
}

func (t *routes) put(op api.Op) api.Errno {
	r := op.Route
	if !addr.Valid(r.Dst) || r.Local && r.Via != 0 {
		return api.ErrOp
	}
	_, err := t.byDst.Get(r.Dst)
	there := err == api.OK
	if err := admit(t, t.room, there); err != api.OK {
		return err
	}
	return t.byDst.Put(r.Dst, r)
}

func (t *routes) delete(op api.Op) api.Errno {
	if !addr.Valid(op.Route.Dst) {
		return api.ErrOp
	}
	// That there was none is no fault: the route is not there behind it either way.
	t.byDst.Del(op.Route.Dst)
	return api.OK
}

func (t *routes) count() int {
	return t.byDst.Len()
}

// longest is the route with the greatest length of those that hold an address.
func (t *routes) longest(a api.Addr) (api.Route, bool) {
	_, r, err := t.byDst.Find(a)
	return r, err == api.OK
}

// list tells all routes, rising.
func (t *routes) list() []api.Route {
	var all []api.Route
	for _, r := range t.byDst.All() {
		all = append(all, r)
	}
	return all
}

func (t *routes) empty() {
	t.byDst = trie.New[api.Route]()
}

package agent

import "weft/api"

// Diff is the changes that lead from tables to others.
func Diff(have, want api.Tables) ([]api.Op, api.Errno) {
	if !inOrder(have) || !inOrder(want) {
		return nil, api.ErrTables
	}
	t := turn{have: have, want: want}
	return append(t.dels(), t.puts()...), api.OK
}

// turn is the way from tables to others; both are in order.
type turn struct {
	have, want api.Tables
}

// dels is what has to go, from the routes down: no route is left without its way.
func (t turn) dels() []api.Op {
	var ops []api.Op
	going := t.moving(t.have.Routes)
	for _, local := range [...]bool{true, false} {
		for _, r := range going {
			if r.Local == local {
				ops = append(ops, api.Op{Kind: api.DelRoute, Route: r})
			}
		}
	}
	for _, n := range without(t.have.Neighs, t.want.Neighs, byIP) {
		ops = append(ops, api.Op{Kind: api.DelNeigh, Neigh: n})
	}
	for _, f := range without(t.have.Fdbs, t.want.Fdbs, byMAC) {
		ops = append(ops, api.Op{Kind: api.DelFdb, Fdb: f})
	}
	return ops
}

// puts is what has to come, up to the routes: each finds its way laid.
func (t turn) puts() []api.Op {
	var ops []api.Op
	for _, f := range without(t.want.Fdbs, t.have.Fdbs, byMAC) {
		ops = append(ops, api.Op{Kind: api.PutFdb, Fdb: f})
	}
	for _, n := range without(t.want.Neighs, t.have.Neighs, byIP) {
		ops = append(ops, api.Op{Kind: api.PutNeigh, Neigh: n})
	}
	for _, r := range t.moving(t.want.Routes) {
		ops = append(ops, api.Op{Kind: api.PutRoute, Route: r})
	}
	return ops
}

// moving is those of the routes that do not stay.
func (t turn) moving(routes []api.Route) []api.Route {
	var list []api.Route
	for _, r := range routes {
		if !t.stays(r) {
			list = append(list, r)
		}
	}
	return list
}

// stays tells whether a route of one of the tables is in both, and leads the same way in both.
func (t turn) stays(r api.Route) bool {
	if !has(t.have.Routes, r, byDst) || !has(t.want.Routes, r, byDst) {
		return false
	}
	return r.Local || wayOf(r, t.have) == wayOf(r, t.want)
}

// way is where a route leads, as far as tables tell it. What is missing is zero, and so is its flag.
type way struct {
	hasNeigh, hasFdb bool
	neigh            api.Neigh
	fdb              api.Fdb
}

func wayOf(r api.Route, t api.Tables) way {
	var w way
	w.neigh, w.hasNeigh = find(t.Neighs, api.Neigh{IP: r.Via}, byIP)
	if w.hasNeigh {
		w.fdb, w.hasFdb = find(t.Fdbs, api.Fdb{MAC: w.neigh.MAC}, byMAC)
	}
	return w
}

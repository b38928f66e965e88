package agent

import (
	"slices"
	"testing"

	"weft/api"
)

// A lease that a Watch shows to be gone: the very next request takes the local route away.
func TestP16_12Watch(t *testing.T) {
	own, other := held(me, 2, 20, 5), held(1, 1, 9, 2)
	for _, evs := range [][]api.Event{
		{removed(6, own)},
		{removed(6, other), removed(7, own)},
		{removed(6, own), removed(7, other)},
		{added(6, held(3, 0, 9, 6)), removed(7, own), added(8, held(4, 9, 9, 8))},
		{added(6, held(3, 2, 9, 6))}, // another host has the subnet now
		{added(6, held(me, 3, 9, 6)), removed(7, held(me, 3, 9, 6)), removed(8, own)},
	} {
		for _, now := range []int64{-9, 0, 15, 99} {
			b := example(t).asks(0, watch(5)).told(events(evs...)).asks(now, kernel(delRoute(local(2))))
			if b.view().Has {
				t.Errorf("P16.12: behind %+v it has a lease", evs)
			}
			// It goes on till it is done.
			b.told(fail(api.ErrDown)).asks(now, kernel(delRoute(local(2)))).told(fail(api.ErrFull)).asks(now, kernel(delRoute(local(2)))).told(api.Resp{})
			if rs := b.view().Have.Routes; slices.Contains(rs, local(2)) {
				t.Errorf("P16.12: %+v", rs)
			}
		}
	}
}

// So with a snapshot.
func TestP16_12Snapshot(t *testing.T) {
	for _, list := range [][]api.Lease{nil, {held(1, 1, 9, 2)}, {held(3, 2, 9, 2)}, {held(3, 0, 9, 2), held(1, 1, 9, 2), held(4, 5, 9, 2)}} {
		example(t).asks(0, watch(5)).told(fail(api.ErrCompacted)).asks(99, snapshot).told(snap(9, list...)).asks(99, kernel(delRoute(local(2))))
		example(t).asks(99, renew(2)).told(fail(api.ErrLease)).asks(99, snapshot).told(snap(9, list...)).asks(99, kernel(delRoute(local(2))))
	}
}

// Tables that others have made may have several local routes: all go, ahead of everything else.
func TestP16_12Several(t *testing.T) {
	odd := api.Route{Dst: sub(6), Via: 9, Local: true}
	old := tables(routes(away(1), local(2), away(3), local(4), odd, away(9)), neighs(neigh(1, 1)), fdbs(fdb(1)))
	b := begun(t, self()).asks(0, dump).told(dumped(old)).asks(99, snapshot).told(snap(9, held(1, 1, 9, 2)))
	b.asks(99, kernel(delRoute(local(2)))).told(fail(api.ErrDown)).does(delRoute(local(2)), delRoute(local(4)), delRoute(odd), delRoute(away(3)), delRoute(away(9)))
	b.asks(99, acquire(sub(2)))
	// With an own lease in the view the local route of its subnet stays; the others go.
	begun(t, self()).asks(0, dump).told(dumped(old)).asks(0, snapshot).told(snap(9, held(me, 4, 900, 2))).does(delRoute(local(2)), delRoute(odd), delRoute(away(1)))
}

// Calls by dice: behind each answer that leaves no own lease the local routes go first.
func TestP16_12Any(t *testing.T) {
	r := dice()
	lost := 0
	for range 400 {
		b := begun(t, self())
		for range 100 {
			req := b.next(int64(r.Intn(40)))
			resp := anyResp(r, b, req)
			took := b.done(resp) == api.OK && resp.Err == api.OK && (req.Kind == api.ReqWatch || req.Kind == api.ReqSnapshot)
			for took && !b.view().Has {
				i := slices.IndexFunc(b.view().Have.Routes, func(x api.Route) bool { return x.Local })
				if i < 0 {
					break
				}
				lost++
				first := b.view().Have.Routes[i]
				b.asks(99, kernel(delRoute(first))).told(api.Resp{})
			}
		}
	}
	if lost < 200 {
		t.Errorf("only %d local routes were lost", lost)
	}
}

package agent

import (
	"slices"
	"testing"

	"weft/api"
)

// synced tells whether a View says that nothing is left to do.
func (b both) synced(want bool) both {
	b.t.Helper()
	if v := b.view(); v.Synced != want {
		b.t.Fatalf("P16.11: Synced = %v: %+v", v.Synced, v)
	}
	return b
}

// Synced is told behind a Watch that brought nothing, and behind nothing else.
func TestP16_11Synced(t *testing.T) {
	b := begun(t, self()).synced(false).asks(0, dump).synced(false).told(fail(api.ErrDown)).synced(false)
	b.asks(0, dump).told(api.Resp{}).synced(false).asks(0, snapshot).synced(false).told(snap(4, held(1, 1, 9, 2))).synced(false)
	b.does(putFdb(fdb(1)), putNeigh(neigh(1, 1)), putRoute(away(1))).synced(false)
	b.asks(0, acquire(api.Prefix{})).synced(false).told(fail(api.ErrFull)).synced(false)
	b.asks(0, watch(4)).synced(false).told(api.Resp{}).synced(true)
	// A request that is open changes nothing of it; its answer does.
	b.asks(0, watch(4)).synced(true).refuses(events(added(7, held(1, 1, 9, 7))), api.ErrAnswer).synced(true).told(fail(api.ErrDown)).synced(false)
	b.asks(0, watch(4)).told(api.Resp{}).synced(true).asks(0, watch(4)).told(api.Resp{}).synced(true)
	b.asks(0, watch(4)).told(events(removed(5, held(3, 3, 9, 5)))).synced(false)
	b.asks(0, acquire(api.Prefix{})).told(grant(held(me, 2, 20, 6))).synced(false).asks(0, watch(5)).told(api.Resp{}).synced(true)
	b.asks(0, watch(5)).told(events(added(6, held(me, 2, 20, 6)))).synced(false).does(putRoute(local(2))).synced(false)
	b.asks(0, watch(6)).told(api.Resp{}).synced(true).asks(15, renew(2)).synced(true).told(fail(api.ErrDown)).synced(false)
	b.asks(15, renew(2)).told(grant(held(me, 2, 35, 6))).synced(false).asks(15, watch(6)).synced(false).told(api.Resp{}).synced(true)
	b.asks(15, watch(6)).told(fail(api.ErrLag)).synced(false).asks(15, snapshot).told(snap(6, held(1, 1, 9, 2), held(me, 2, 35, 6))).synced(false)
	b.asks(15, watch(6)).told(api.Resp{}).synced(true)
}

// Errors that stand beside a list without events do not make a Watch one that brought nothing.
func TestP16_11SyncedErrors(t *testing.T) {
	for _, err := range errnos {
		example(t).synced(true).asks(0, watch(5)).told(fail(err)).synced(false)
	}
	// Nor do events beside an error, nor answers of other requests that have none.
	example(t).asks(0, watch(5)).told(api.Resp{Err: api.ErrDown, Events: []api.Event{{}}}).synced(false)
	example(t).asks(99, renew(2)).told(grant(held(me, 2, 35, 5))).synced(false)
	// Of a Dump or a Snapshot the events are not read: it makes no Watch of them.
	begun(t, self()).asks(0, dump).told(events()).synced(false).asks(0, snapshot).told(snap(0)).synced(false)
}

// An agent without a lease may be synced, and one that skips.
func TestP16_11SyncedWithout(t *testing.T) {
	v := seeing(t).asks(0, acquire(api.Prefix{})).told(fail(api.ErrFull)).asks(0, watch(4)).told(api.Resp{}).synced(true).view()
	if v.Has || v.Lease != (api.Lease{}) {
		t.Errorf("P16.11: %+v", v)
	}
}

// Has and Lease tell the first own lease, rising by subnet.
func TestP16_11Own(t *testing.T) {
	own := func(want api.Lease, list ...api.Lease) {
		t.Helper()
		if v := seeing(t, list...).view(); v.Has != (want != api.Lease{}) || v.Lease != want || !slices.Equal(v.Leases, list) {
			t.Errorf("P16.11: %+v, want %+v", v, want)
		}
	}
	own(api.Lease{})
	own(api.Lease{}, held(1, 1, 9, 2))
	own(held(me, 1, 900, 2), held(me, 1, 900, 2))
	own(held(me, 3, 900, 2), held(1, 1, 9, 2), held(me, 3, 900, 2), held(me, 5, 800, 2), held(4, 7, 9, 2))
	// Another that is added ahead of it takes its place, and gives it back.
	b := example(t).asks(0, watch(5)).told(events(added(6, held(me, 0, 30, 6))))
	if v := b.view(); v.Lease != held(me, 0, 30, 6) {
		t.Errorf("P16.11: %+v", v)
	}
	b.does(putRoute(local(0))).asks(0, watch(6)).told(events(removed(7, held(me, 0, 30, 6))))
	if v := b.view(); v.Lease != held(me, 2, 20, 5) {
		t.Errorf("P16.11: %+v", v)
	}
}

// Until the tables are read Have is empty; then it is what was read, and what was done to it.
func TestP16_11Have(t *testing.T) {
	b := begun(t, self()).asks(0, dump).told(api.Resp{Err: api.ErrDown, Tables: full()})
	if v := b.view(); !sameTables(v.Have, api.Tables{}) {
		t.Errorf("P16.11: %+v", v)
	}
	b.asks(0, dump).told(dumped(full()))
	if v := b.view(); !sameTables(v.Have, full()) {
		t.Errorf("P16.11: %+v", v)
	}
	b.asks(0, snapshot).told(snap(4)).does(delRoute(local(2)))
	if v := b.view(); !sameTables(v.Have, tables(routes(away(1), away(3)), full().Neighs, full().Fdbs)) {
		t.Errorf("P16.11: %+v", v)
	}
}

// Nothing changes by a View: two in a row are the same.
func TestP16_11NothingChanges(t *testing.T) {
	r := dice()
	b := begun(t, self())
	for range 500 {
		v := b.view()
		for range 3 {
			if !sameView(b.view(), v) {
				t.Fatal("P16.11: a View changes the next one")
			}
		}
		b.done(anyResp(r, b, b.next(int64(r.Intn(40)))))
	}
}

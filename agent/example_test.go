package agent

import (
	"slices"
	"testing"

	"weft/api"
)

// The chapter's examples, step by step.
func TestP16_4Examples(t *testing.T) {
	one, mine := held(1, 1, 0, 0), held(me, 2, 20, 5)
	b := begun(t, self())
	// 1
	b.asks(0, dump).told(fail(api.ErrDown)).asks(0, dump).told(api.Resp{}).asks(0, snapshot).asks(0, snapshot)
	// 2
	b.told(snap(4, one)).does(putFdb(fdb(1)), putNeigh(neigh(1, 1)), putRoute(away(1)))
	// 3
	b.asks(0, acquire(api.Prefix{})).told(grant(mine)).asks(0, watch(4))
	// 4
	b.told(events(added(5, mine))).does(putRoute(local(2))).asks(0, watch(5)).synced(false).told(api.Resp{}).synced(true)
	// 5
	b.asks(14, watch(5)).told(api.Resp{}).asks(15, renew(2)).told(grant(held(me, 2, 35, 0))).asks(15, watch(5))
	// 6
	b.told(events(removed(6, held(1, 1, 0, 0)), removed(7, held(me, 2, 0, 0))))
	b.does(delRoute(local(2)), delRoute(away(1)), delNeigh(neigh(1, 1)), delFdb(fdb(1))).asks(0, acquire(sub(2))).told(fail(api.ErrFull)).asks(0, watch(7))
	// 7
	b.told(fail(api.ErrCompacted)).asks(0, snapshot)
	// 8
	b.told(snap(3))
	if v := b.view(); v.Cursor != 3 {
		t.Errorf("P16.7: %+v", v)
	}
	if err := b.done(snap(3)); err != api.ErrTurn {
		t.Errorf("P16.5: %d", err)
	}
	// 9
	b.asks(0, acquire(sub(2))).told(fail(api.ErrFull)).asks(0, watch(3))
	b.refuses(events(added(5, held(1, 1, 0, 5)), added(6, held(1, 3, 0, 6))), api.ErrAnswer).asks(0, watch(3))
	// 10
	b.told(events(added(4, held(1, 7, 0, 4)))).does(putFdb(fdb(1))).asks(0, kernel(putNeigh(neigh(7, 1)))).told(fail(api.ErrFull))
	if v := b.view(); !v.Degraded || !slices.Equal(v.Skipped, []api.Prefix{sub(7)}) {
		t.Errorf("P16.8: %+v", v)
	}
	b.does(delFdb(fdb(1))).asks(0, watch(4))
}

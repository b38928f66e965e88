package agent

import (
	"math"
	"testing"

	"weft/api"
)

// While a request is open it is asked for again, at every tick.
func TestP16_4OpenAgain(t *testing.T) {
	ticks := []int64{math.MinInt64, -1, 0, 1, 14, 15, 16, math.MaxInt64}
	again := func(b both, want api.Req) both {
		t.Helper()
		for _, now := range ticks {
			b.asks(now, want)
			b.view()
		}
		return b
	}
	b := again(begun(t, self()), dump).told(api.Resp{})
	b = again(b, snapshot).told(snap(4, held(1, 1, 9, 2)))
	b = again(b, kernel(putFdb(fdb(1)))).told(api.Resp{}).settle(0)
	b = again(b, acquire(api.Prefix{})).told(grant(held(me, 2, 20, 5)))
	b = again(b, watch(4)).told(events(added(5, held(me, 2, 20, 5)))).does(putRoute(local(2)))
	b = again(b.asks(14, watch(5)), watch(5)).told(api.Resp{})
	again(b.asks(15, renew(2)), renew(2)).told(fail(api.ErrDown))
	// What is chosen hangs on the tick of the first asking.
	b.asks(14, watch(5))
	b.asks(15, watch(5))
}

// Each rule goes ahead of all behind it.
func TestP16_4Dump(t *testing.T) {
	// It is stale and without a lease, and still the tables are first, however often they are not to be had.
	b := begun(t, self())
	for _, err := range errnos {
		b.asks(0, dump).told(fail(err))
	}
	b.asks(0, dump).told(api.Resp{}).asks(0, snapshot)
}

func TestP16_4Snapshot(t *testing.T) {
	// Tables of which all has to go, no lease: a snapshot goes first.
	b := begun(t, self()).asks(0, dump).told(dumped(full()))
	for _, err := range errnos {
		b.asks(0, snapshot).told(fail(err))
	}
	b.asks(0, snapshot).told(snap(4)).asks(0, kernel(delRoute(local(2))))
	// Stale again, while a renewal is due and an Acquire wanted.
	c := seeing(t, held(me, 2, 20, 4)).asks(99, watch(4)).told(fail(api.ErrGone)).asks(99, snapshot)
	other := held(me, 2, 20, 4)
	other.Pub++
	c.told(snap(9, other)).asks(99, acquire(sub(2)))
}

func TestP16_4Kernel(t *testing.T) {
	// The kernel's changes go ahead of an Acquire and of a renewal, one by one, in the order of a Diff.
	wrong := held(me, 2, 20, 4)
	wrong.MAC = mac(9)
	b := fresh(t).asks(99, snapshot).told(snap(4, held(1, 1, 9, 2), wrong, held(3, 3, 9, 2)))
	for _, op := range []api.Op{putFdb(fdb(1)), putFdb(fdb(3)), putNeigh(neigh(1, 1)), putNeigh(neigh(3, 3)), putRoute(away(1)), putRoute(local(2)), putRoute(away(3))} {
		b.asks(99, kernel(op)).told(fail(api.ErrDown)).asks(99, kernel(op)).told(api.Resp{})
	}
	b.asks(99, acquire(sub(2))).told(fail(api.ErrDown)).asks(99, acquire(sub(2)))
	// Tables that were there before the agent are brought to the plan as well.
	old := tables(routes(away(1), local(5), local(6)), neighs(neigh(1, 3)), fdbs(fdb(3)))
	begun(t, self()).asks(0, dump).told(dumped(old)).asks(0, snapshot).told(snap(4, held(1, 1, 9, 2), held(me, 6, 90, 3))).
		does(delRoute(local(5)), delRoute(away(1)), delNeigh(neigh(1, 3)), delFdb(fdb(3)), putFdb(fdb(1)), putNeigh(neigh(1, 1)), putRoute(away(1))).
		asks(0, watch(4))
}

// An own lease whose Pub and MAC are the agent's needs no Acquire; one of which either differs does.
func TestP16_4AcquireWhen(t *testing.T) {
	seeing(t).asks(0, acquire(api.Prefix{}))
	seeing(t, held(1, 1, 90, 2)).asks(0, acquire(api.Prefix{}))
	seeing(t, held(me, 2, 90, 2)).asks(0, watch(4))
	pubs, macs := held(me, 2, 90, 2), held(me, 2, 90, 2)
	pubs.Pub, macs.MAC = pub(3), mac(3)
	seeing(t, pubs).asks(0, acquire(sub(2)))
	seeing(t, macs).asks(0, acquire(sub(2)))
	// A lease of another host with the agent's Pub and MAC is none of its own.
	foreign := held(me, 2, 90, 2)
	foreign.Host = 3
	seeing(t, foreign).asks(0, acquire(api.Prefix{}))
	// Of several own leases the first one counts.
	seeing(t, held(me, 2, 90, 2), at(pubs, base(3), 24)).asks(0, watch(4))
	seeing(t, pubs, held(me, 3, 90, 2)).asks(0, acquire(sub(2)))
}

// Behind an Acquire the agent waits for its event: till the cursor has come to the granted revision.
func TestP16_4AcquireGranted(t *testing.T) {
	ask := func(rev int64) both {
		t.Helper()
		return seeing(t, held(1, 1, 9, 2)).asks(0, acquire(api.Prefix{})).told(grant(held(me, 2, 20, rev)))
	}
	for _, rev := range []int64{math.MinInt64, -1, 0, 3, 4} {
		ask(rev).asks(0, acquire(sub(2)))
	}
	for _, rev := range []int64{5, 6, math.MaxInt64} {
		ask(rev).asks(0, watch(4))
	}
	// At the granted revision, and the lease has not come: it is asked for again.
	ask(6).asks(0, watch(4)).told(events(added(5, held(1, 1, 9, 5)))).asks(0, watch(5)).
		told(events(added(6, held(1, 1, 9, 6)))).asks(0, acquire(sub(2)))
	// A snapshot sets it back.
	ask(90).asks(0, watch(4)).told(fail(api.ErrLag)).asks(0, snapshot).told(snap(1, held(1, 1, 9, 2))).asks(0, acquire(sub(2)))
}

// Behind an Acquire that found no room the agent waits till a lease goes, or a snapshot comes.
func TestP16_4AcquireWaiting(t *testing.T) {
	wait := func() both {
		t.Helper()
		return seeing(t, held(1, 1, 9, 2)).asks(0, acquire(api.Prefix{})).told(fail(api.ErrFull)).asks(0, watch(4))
	}
	wait().told(api.Resp{}).asks(0, watch(4)).told(fail(api.ErrDown)).asks(0, watch(4))
	wait().told(events(added(5, held(1, 1, 9, 5)), added(6, held(1, 1, 9, 6)))).asks(0, watch(6))
	wait().told(events(removed(5, held(1, 1, 9, 2)))).settle(0).asks(0, acquire(api.Prefix{}))
	// A lease that the view never had sets it free as well, and one that is added behind it does not stop it.
	wait().told(events(removed(5, held(3, 77, 9, 2)))).asks(0, acquire(api.Prefix{}))
	wait().told(events(removed(5, held(3, 77, 9, 2)), added(6, held(1, 1, 9, 5)))).asks(0, acquire(api.Prefix{}))
	wait().told(fail(api.ErrGone)).asks(0, snapshot).told(snap(4, held(1, 1, 9, 2))).asks(0, acquire(api.Prefix{}))
	// It waits while its own lease tells another MAC, too; and its renewal goes on.
	other := held(me, 2, 20, 2)
	other.MAC = mac(9)
	seeing(t, other).asks(0, acquire(sub(2))).told(fail(api.ErrFull)).asks(14, watch(4)).told(api.Resp{}).asks(15, renew(2))
}

// The wish: the first local route of the tables, the own lease of a snapshot, what was granted, what an event brought.
func TestP16_4Wish(t *testing.T) {
	seeing(t).asks(0, acquire(api.Prefix{}))
	old := tables(routes(away(1), local(5), local(6)), nil, nil)
	b := begun(t, self()).asks(0, dump).told(dumped(old)).asks(0, snapshot).told(snap(4)).settle(0).asks(0, acquire(sub(5)))
	b.told(grant(held(me, 7, 20, 0))).asks(0, acquire(sub(7)))
	begun(t, self()).asks(0, dump).told(dumped(tables(routes(away(1)), nil, nil))).asks(0, snapshot).told(snap(4)).settle(0).asks(0, acquire(api.Prefix{}))
	// Of a snapshot the first own lease; one without an own lease leaves the wish as it is.
	wrong := held(me, 8, 20, 1)
	wrong.Pub++
	b = begun(t, self()).asks(0, dump).told(dumped(old)).asks(0, snapshot).told(snap(4, held(1, 1, 9, 1), wrong, held(me, 9, 20, 1))).settle(0)
	b.asks(0, acquire(sub(8))).told(fail(api.ErrFull)).asks(0, watch(4)).told(fail(api.ErrSeq)).asks(0, snapshot).told(snap(7)).settle(0).asks(0, acquire(sub(8)))
	// An own lease that is added, though another one is the first; one of another host is not wished.
	b = seeing(t, wrong).asks(0, acquire(sub(8))).told(fail(api.ErrFull))
	b.asks(0, watch(4)).told(events(added(5, held(me, 9, 20, 5)), added(6, held(1, 3, 9, 6)), removed(7, held(me, 9, 20, 5)))).settle(0).asks(0, acquire(sub(9)))
	// A lease that goes leaves the wish.
	b = seeing(t, held(me, 2, 20, 2)).asks(0, watch(4)).told(events(removed(5, held(me, 2, 20, 2)))).settle(0).asks(0, acquire(sub(2)))
	// An answer that is refused or tells an error leaves it, too.
	b.refuses(grant(held(1, 3, 20, 2)), api.ErrAnswer)
	b.told(api.Resp{Err: api.ErrDown, Answer: api.Answer{Lease: held(me, 3, 20, 2)}}).asks(0, acquire(sub(2)))
}

// A renewal is due from Renew ticks ahead of the end on.
func TestP16_4RenewWhen(t *testing.T) {
	for _, row := range []struct {
		until, span, now int64
		due              bool
	}{
		{20, 5, 14, false}, {20, 5, 15, true}, {20, 5, 16, true}, {20, 5, 1000, true}, {20, 5, math.MaxInt64, true}, {20, 5, math.MinInt64, false},
		{20, 1, 18, false}, {20, 1, 19, true}, {20, 1 << 40, 20 - 1<<40, true}, {20, 1 << 40, 19 - 1<<40, false},
		{math.MaxInt64, 5, math.MaxInt64, false}, {math.MaxInt64, 1 << 40, math.MaxInt64, false},
		{math.MaxInt64 - 1, 5, math.MaxInt64 - 7, false}, {math.MaxInt64 - 1, 5, math.MaxInt64 - 6, true},
		{math.MinInt64, 5, math.MinInt64, true}, {math.MinInt64 + 5, 5, math.MinInt64, true}, {math.MinInt64 + 6, 5, math.MinInt64, false},
		{math.MinInt64 + 4, 5, math.MinInt64, true}, {0, 5, -5, true}, {0, 5, -6, false}, {-3, 5, 0, true},
	} {
		s := self()
		s.Renew = row.span
		b := begun(t, s).asks(0, dump).told(dumped(tables(routes(local(2)), nil, nil))).asks(0, snapshot).told(snap(4, held(me, 2, row.until, 2)))
		want := watch(4)
		if row.due {
			want = renew(2)
		}
		b.asks(row.now, want)
	}
}

// Behind a renewal that was done another request goes first; behind one that was not it is asked again at once.
func TestP16_4RenewAgain(t *testing.T) {
	due := func() both {
		t.Helper()
		return seeing(t, held(me, 2, 20, 2)).asks(99, watch(4)).told(api.Resp{}).asks(99, renew(2))
	}
	// The lease's end has not moved beyond now: a Watch goes between, whatever comes of it.
	for _, r := range []api.Resp{{}, fail(api.ErrDown), events(added(5, held(1, 3, 9, 5)))} {
		b := due().told(grant(held(me, 2, 20, 2))).asks(99, watch(4)).told(r)
		if len(r.Events) > 0 {
			b.does(putFdb(fdb(1)), putNeigh(neigh(3, 1)), putRoute(away(3)))
		}
		b.asks(99, renew(2))
	}
	for _, err := range errnos {
		if err != api.ErrLease {
			due().told(fail(err)).asks(99, renew(2)).told(fail(err)).asks(99, renew(2))
		}
	}
	// An answer that is refused is no answer.
	due().refuses(grant(held(1, 2, 99, 2)), api.ErrAnswer).told(fail(api.ErrDown)).asks(99, renew(2))
}

// An own lease is renewed though its Pub is another host's and no Acquire may be asked for.
func TestP16_4RenewOfAnother(t *testing.T) {
	l := held(me, 2, 20, 2)
	l.Pub = pub(9)
	b := seeing(t, l).asks(99, acquire(sub(2))).told(grant(held(me, 2, 20, 9)))
	b.asks(99, renew(2)).told(grant(held(me, 2, 200, 9))).asks(99, watch(4))
	// Of several own leases it is the first one.
	seeing(t, held(1, 1, 9, 1), held(me, 2, 500, 2), held(me, 3, 20, 3)).asks(99, watch(4))
	seeing(t, held(1, 1, 9, 1), held(me, 2, 20, 2), held(me, 3, 500, 3)).asks(14, watch(4)).told(api.Resp{}).asks(15, renew(2))
}

// A Watch asks for four events behind the cursor.
func TestP16_4Watch(t *testing.T) {
	for _, rev := range []int64{0, 1, 77, 1 << 40, math.MaxInt64 - 1, math.MaxInt64} {
		b := fresh(t).asks(0, snapshot).told(snap(rev, held(me, 2, 90, 0))).does(putRoute(local(2)))
		for range 3 {
			b.asks(0, watch(rev)).told(api.Resp{})
		}
	}
}

// The kinds and the fields of each request are the numbers that the world carries; all others are zero.
func TestP16_4Fields(t *testing.T) {
	b := begun(t, self())
	for _, row := range []struct {
		req  api.Req
		resp api.Resp
	}{
		{api.Req{Kind: 1}, api.Resp{}},
		{api.Req{Kind: 2}, snap(4)},
		{api.Req{Kind: 4, Cmd: api.Cmd{Kind: 1, Host: 2, Pub: pub(2), MAC: mac(2)}}, grant(held(me, 2, 3, 5))},
		{api.Req{Kind: 6, From: 4, Max: 4}, events(added(5, held(me, 2, 3, 5)))},
		{api.Req{Kind: 3, Op: api.Op{Kind: 1, Route: local(2)}}, api.Resp{}},
		{api.Req{Kind: 5, Cmd: api.Cmd{Kind: 2, Host: 2, Subnet: sub(2)}}, grant(held(me, 2, 9, 5))},
		{api.Req{Kind: 6, From: 5, Max: 4}, api.Resp{}},
	} {
		b.asks(0, row.req).told(row.resp)
	}
}

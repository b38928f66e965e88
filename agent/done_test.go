package agent

import (
	"math"
	"slices"
	"testing"

	"weft/api"
)

// Without an open request nothing is taken, whatever it is, and nothing changes.
func TestP16_5Turn(t *testing.T) {
	turn := func(b both) {
		t.Helper()
		was := copyView(b.view())
		for _, r := range []api.Resp{{}, snap(9), snap(-1), dumped(full()), dumped(unordered()[0]), grant(held(me, 3, 9, 9)), events(added(5, held(1, 1, 1, 1))), fail(api.ErrFull), fail(api.ErrLease), fail(api.ErrLag)} {
			if err := b.done(r); err != api.ErrTurn {
				t.Errorf("P16.5: Done(%+v) = %d", r, err)
			}
			if v := b.view(); !sameView(v, was) {
				t.Errorf("P16.5: the view became %+v", v)
			}
		}
	}
	turn(begun(t, self()))
	b := begun(t, self()).asks(0, dump).told(api.Resp{})
	turn(b)
	b.asks(0, snapshot).told(snap(4, held(1, 1, 9, 2)))
	turn(b)
	b.does(putFdb(fdb(1)), putNeigh(neigh(1, 1)), putRoute(away(1)))
	turn(b)
	b.asks(0, acquire(api.Prefix{})).told(grant(held(me, 2, 20, 5)))
	turn(b)
	b.asks(0, watch(4)).told(events(added(5, held(me, 2, 20, 5)))).does(putRoute(local(2))).asks(99, renew(2)).told(grant(held(me, 2, 20, 5)))
	turn(b)
	b.asks(99, watch(5))
}

// An error that no promise names for a request leaves all as it is: the same is asked for again.
func TestP16_5OtherErrors(t *testing.T) {
	wrong := held(me, 2, 20, 2)
	wrong.Pub++
	for _, row := range []struct {
		b     both
		req   api.Req
		named []api.Errno
	}{
		{begun(t, self()), dump, nil},
		{fresh(t), snapshot, nil},
		{fresh(t).asks(0, snapshot).told(snap(4, held(1, 1, 9, 2))), kernel(putFdb(fdb(1))), []api.Errno{api.ErrFull}},
		{begun(t, self()).asks(0, dump).told(dumped(full())).asks(0, snapshot).told(snap(4)), kernel(delRoute(local(2))), nil},
		{seeing(t), acquire(api.Prefix{}), []api.Errno{api.ErrFull}},
		{seeing(t, wrong), acquire(sub(2)), []api.Errno{api.ErrFull}},
		{seeing(t, held(me, 2, 20, 2)).asks(0, watch(4)).told(api.Resp{}), renew(2), []api.Errno{api.ErrLease}},
	} {
		for _, err := range errnos {
			if slices.Contains(row.named, err) {
				continue
			}
			was := copyView(row.b.asks(99, row.req).view())
			was.Synced = false
			// What stands beside an error is not read.
			r := api.Resp{Err: err, Answer: api.Answer{Lease: held(me, 2, 500, 500)}, Snap: api.Snap{Rev: 500}, Events: []api.Event{added(5, held(me, 2, 500, 5))}, Tables: full()}
			if v := row.b.told(r).view(); !sameView(v, was) {
				t.Errorf("P16.5: behind %d to %+v the view is %+v, was %+v", err, row.req, v, was)
			}
		}
	}
	b := seeing(t, held(me, 2, 900, 2))
	for _, err := range errnos {
		if !slices.Contains([]api.Errno{api.ErrCompacted, api.ErrFuture, api.ErrGone, api.ErrLag, api.ErrSeq}, err) {
			b.asks(0, watch(4)).told(api.Resp{Err: err, Events: []api.Event{added(5, held(1, 1, 1, 1))}})
		}
	}
	b.asks(0, watch(4))
}

// What a request does not ask for may be anything in its answer.
func TestP16_5TheRest(t *testing.T) {
	odd := api.Resp{Answer: api.Answer{Err: api.ErrDown, Lease: api.Lease{Host: -1, Subnet: api.Prefix{Len: 77}}, Rev: -1}, Snap: api.Snap{Rev: -9, Leases: []api.Lease{{Subnet: api.Prefix{Len: 99}}}},
		Events: make([]api.Event, 9), Tables: unordered()[0]}
	with := func(change func(*api.Resp)) api.Resp {
		r := odd
		change(&r)
		return r
	}
	l := held(me, 2, 20, 5)
	b := begun(t, self()).asks(0, dump).told(with(func(r *api.Resp) { r.Tables = api.Tables{} }))
	b.asks(0, snapshot).told(with(func(r *api.Resp) { r.Snap = api.Snap{Rev: 4, Now: -7, Leases: []api.Lease{held(1, 1, 9, 2)}} }))
	for range 3 {
		b.next(0)
		b.told(odd)
	}
	b.asks(0, acquire(api.Prefix{})).told(with(func(r *api.Resp) { r.Answer.Lease = l }))
	b.asks(0, watch(4)).told(with(func(r *api.Resp) { r.Events = []api.Event{added(5, l)} })).asks(0, kernel(putRoute(local(2)))).told(odd)
	b.asks(99, renew(2)).told(with(func(r *api.Resp) { r.Answer.Lease = l })).asks(99, watch(5)).told(with(func(r *api.Resp) { r.Events = nil }))
	if v := b.view(); !v.Synced || v.Lease != l {
		t.Errorf("P16.5: %+v", v)
	}
}

// Of a grant nothing is read but its host, its subnet, its end and its revision.
func TestP16_5GrantsFields(t *testing.T) {
	l := held(me, 2, 20, 2)
	b := seeing(t, l).asks(99, watch(4)).told(api.Resp{}).asks(99, renew(2))
	b.told(grant(api.Lease{Host: me, Subnet: sub(2), Pub: 1, MAC: mac(77), Until: 35, Rev: -8}))
	l.Until = 35
	if v := b.view(); v.Lease != l || !slices.Equal(v.Leases, []api.Lease{l}) {
		t.Errorf("P16.9: %+v", v)
	}
}

func TestP16_6Tables(t *testing.T) {
	for i, bad := range unordered() {
		begun(t, self()).asks(0, dump).refuses(dumped(bad), api.ErrTables).refuses(dumped(bad), api.ErrTables)
		b := begun(t, self()).asks(0, dump).refuses(dumped(bad), api.ErrTables).told(dumped(full()))
		if v := b.view(); !sameTables(v.Have, full()) || v.Synced {
			t.Errorf("P16.6: row %d: %+v", i, v)
		}
		// With an error the tables are not looked at.
		begun(t, self()).asks(0, dump).told(api.Resp{Err: api.ErrDown, Tables: bad}).asks(0, dump)
	}
	r := dice()
	for range 300 {
		have := anyTables(r)
		if v := begun(t, self()).asks(0, dump).told(dumped(have)).view(); !sameTables(v.Have, have) {
			t.Errorf("P16.6: %+v of %+v", v.Have, have)
		}
	}
}

func TestP16_7Refused(t *testing.T) {
	l := held(1, 1, 9, 2)
	for _, r := range []api.Resp{
		snap(-1), snap(math.MinInt64), snap(-1, l),
		snap(9, held(1, 4, 9, 1), held(1, 3, 9, 1)),
		snap(9, held(1, 4, 9, 1), held(3, 4, 9, 1)),
		snap(9, held(1, 4, 9, 1), held(1, 4, 9, 1)),
		snap(9, held(1, 1, 9, 1), held(1, 2, 9, 1), held(1, 4, 9, 1), held(1, 3, 9, 1)),
		snap(9, at(l, base(4), 24), at(l, base(4), 22)),
		snap(9, at(l, base(4)+1, 24)), snap(9, at(l, 0, 33)), snap(9, at(l, 0, -1)), snap(9, at(l, 0, math.MinInt)),
		snap(9, held(1, 1, 9, 1), held(1, 2, 9, 1), at(l, base(3), 33)),
		snap(9, at(l, base(2)+1, 24), held(1, 3, 9, 1)),
		snap(9, at(l, 200<<24, 8), at(l, 100<<24, 8)),
	} {
		fresh(t).asks(0, snapshot).refuses(r, api.ErrAnswer).refuses(r, api.ErrAnswer).told(snap(0))
		example(t).asks(0, watch(5)).told(fail(api.ErrSeq)).asks(0, snapshot).refuses(r, api.ErrAnswer)
		r.Err = api.ErrDown
		fresh(t).asks(0, snapshot).told(r).asks(0, snapshot)
	}
}

func TestP16_7Taken(t *testing.T) {
	l := held(1, 0, 9, 2)
	for _, list := range [][]api.Lease{
		nil, {held(1, 4, 9, 1)}, {held(1, 3, 9, 1), held(1, 4, 9, 1)}, {at(l, base(4), 22), at(l, base(4), 24)},
		{at(l, 0, 0), at(l, 0, 1), at(l, 1<<31, 1), at(l, math.MaxUint32, 32)}, {held(me, 3, 9, 1), held(me, 4, 9, 1)},
		{{Host: -7, Subnet: sub(3), Until: math.MinInt64, Rev: math.MaxInt64}, {Host: math.MaxInt, Subnet: sub(4), Rev: -1}},
	} {
		for _, rev := range []int64{0, 1, 1 << 41, math.MaxInt64} {
			v := fresh(t).asks(0, snapshot).told(snap(rev, list...)).view()
			if v.Cursor != rev || !slices.Equal(v.Leases, list) {
				t.Errorf("P16.7: %+v", v)
			}
		}
	}
}

// A snapshot takes the place of all that the agent knew of the leases; that it is degraded stays.
func TestP16_7Anew(t *testing.T) {
	b := example(t).asks(0, watch(5)).told(events(added(6, held(3, 7, 9, 6)))).asks(0, kernel(putFdb(fdb(3)))).told(fail(api.ErrFull))
	if v := b.view(); !v.Degraded || !slices.Equal(v.Skipped, []api.Prefix{sub(7)}) {
		t.Fatalf("P16.8: %+v", v)
	}
	list := []api.Lease{held(1, 1, 9, 2), held(3, 7, 9, 6)}
	v := b.asks(0, watch(6)).told(fail(api.ErrLag)).asks(0, snapshot).told(snap(2, list...)).view()
	if !v.Degraded || len(v.Skipped) != 0 || v.Cursor != 2 || v.Has || v.Lease != (api.Lease{}) || !slices.Equal(v.Leases, list) {
		t.Errorf("P16.7: %+v", v)
	}
	b.does(delRoute(local(2)), putFdb(fdb(3)), putNeigh(neigh(7, 3)), putRoute(away(7))).asks(0, acquire(sub(2)))
}

// Every change that is done is done in the tables held to be there: put in, put over, taken out, at both ends and between.
func TestP16_8CarriedOut(t *testing.T) {
	r := dice()
	for range 400 {
		b := begun(t, self()).asks(0, dump).told(dumped(anyTables(r))).asks(0, snapshot)
		var list []api.Lease
		for k := range 6 {
			if l := held(r.Intn(4), k, 900, 1); r.Intn(2) == 0 {
				l.MAC = mac(r.Intn(4))
				list = append(list, l)
			}
		}
		have := layOf(b.told(snap(4, list...)).view().Have)
		for b.next(0).Kind == api.ReqKernel {
			have.do(b.next(0).Op)
			if v := b.told(api.Resp{}).view(); !sameTables(v.Have, have.tables()) {
				t.Fatalf("P16.8: %+v, want %+v", v.Have, have.tables())
			}
		}
		if v := b.view(); !sameTables(v.Have, planned(list, me).tables()) {
			t.Fatalf("P16.8: %+v is no plan of %+v", v.Have, list)
		}
	}
}

// skips tells what is skipped behind an ErrFull.
func (b both) skips(op api.Op, want ...api.Prefix) both {
	b.t.Helper()
	have := copyTables(b.asks(0, kernel(op)).view().Have)
	v := b.told(fail(api.ErrFull)).view()
	if !v.Degraded || !slices.Equal(v.Skipped, want) || !sameTables(v.Have, have) {
		b.t.Fatalf("P16.8: behind ErrFull of %+v: %+v, want %v", op, v, want)
	}
	return b
}

func TestP16_8FullRoute(t *testing.T) {
	b := fresh(t).asks(0, snapshot).told(snap(4, held(1, 1, 9, 2), held(me, 2, 900, 2), held(3, 3, 9, 2)))
	b.does(putFdb(fdb(1)), putFdb(fdb(3)), putNeigh(neigh(1, 1)), putNeigh(neigh(3, 3)))
	b.skips(putRoute(away(1)), sub(1)).does(delNeigh(neigh(1, 1)), delFdb(fdb(1)))
	// The own subnet is skipped as well; it is still the own lease.
	b.skips(putRoute(local(2)), sub(1), sub(2))
	b.does(putRoute(away(3))).asks(0, watch(4))
	if v := b.view(); !v.Has || v.Lease != held(me, 2, 900, 2) || !sameTables(v.Have, tables(routes(away(3)), neighs(neigh(3, 3)), fdbs(fdb(3)))) {
		t.Errorf("P16.8: %+v", v)
	}
}

// A neighbour is for all leases of other hosts that begin at its address, and for no own one.
func TestP16_8FullNeigh(t *testing.T) {
	short, longer := at(held(1, 0, 9, 2), base(4), 22), at(held(3, 0, 9, 2), base(4), 25)
	b := fresh(t).asks(0, snapshot).told(snap(4, short, held(me, 4, 900, 2), longer, held(3, 5, 9, 2)))
	b.does(putFdb(fdb(1)), putFdb(fdb(3))).skips(putNeigh(neigh(4, 3)), short.Subnet, longer.Subnet)
	b.does(delFdb(fdb(1)), putNeigh(neigh(5, 3)), putRoute(local(4)), putRoute(away(5))).asks(0, watch(4))
}

// An entry is for all leases of other hosts with its MAC, and for no own one.
func TestP16_8FullFdb(t *testing.T) {
	list := []api.Lease{held(1, 1, 9, 2), held(3, 3, 9, 2), held(me, 5, 900, 2), held(4, 7, 9, 2)}
	for i := range 3 {
		list[i].MAC = mac(8)
	}
	b := fresh(t).asks(0, snapshot).told(snap(4, list...)).does(putFdb(fdb(4)))
	b.skips(putFdb(api.Fdb{MAC: mac(8), To: pub(3)}), sub(1), sub(3))
	b.does(putNeigh(neigh(7, 4)), putRoute(local(5)), putRoute(away(7))).asks(0, acquire(sub(5)))
}

// What is skipped grows by each that finds no room, in whatever order, and rises.
func TestP16_8FullAgain(t *testing.T) {
	list := []api.Lease{held(5, 1, 9, 2), held(4, 3, 9, 2), held(3, 5, 9, 2), held(1, 7, 9, 2)}
	b := fresh(t).asks(0, snapshot).told(snap(4, list...))
	b.skips(putFdb(fdb(1)), sub(7)).skips(putFdb(fdb(3)), sub(5), sub(7)).does(putFdb(fdb(4)), putFdb(fdb(5)))
	b.skips(putNeigh(neigh(1, 5)), sub(1), sub(5), sub(7)).does(delFdb(fdb(5)), putNeigh(neigh(3, 4)))
	b.skips(putRoute(away(3)), sub(1), sub(3), sub(5), sub(7)).does(delNeigh(neigh(3, 4)), delFdb(fdb(4))).asks(0, acquire(api.Prefix{}))
}

// A Del that finds no room changes nothing, nor does any other error of a Put.
func TestP16_8NotFull(t *testing.T) {
	b := begun(t, self()).asks(0, dump).told(dumped(full())).asks(0, snapshot).told(snap(4, held(1, 5, 9, 2)))
	for _, op := range []api.Op{delRoute(local(2)), delRoute(away(1)), delRoute(away(3)), delNeigh(neigh(1, 1)), delNeigh(neigh(3, 3)), delFdb(fdb(3))} {
		for _, err := range errnos {
			b.asks(0, kernel(op)).told(fail(err))
		}
		if v := b.view(); v.Degraded || len(v.Skipped) != 0 {
			t.Errorf("P16.8: behind %+v: %+v", op, v)
		}
		b.does(op)
	}
	for _, op := range []api.Op{putNeigh(neigh(5, 1)), putRoute(away(5))} {
		for _, err := range errnos {
			if err != api.ErrFull {
				b.asks(0, kernel(op)).told(fail(err))
			}
		}
		if v := b.view(); v.Degraded || len(v.Skipped) != 0 {
			t.Errorf("P16.8: behind %+v: %+v", op, v)
		}
		b.does(op)
	}
}

// The chapter's tenth example.
func TestP16_8Example(t *testing.T) {
	b := example(t).asks(0, watch(5)).told(events(added(6, held(3, 7, 9, 6)))).does(putFdb(fdb(3)))
	b.skips(putNeigh(neigh(7, 3)), sub(7)).does(delFdb(fdb(3))).asks(0, watch(6)).told(api.Resp{})
	if !b.view().Synced {
		t.Error("P16.8: with a subnet skipped it is never synced")
	}
	// Another lease uses the entry: it stays.
	c := example(t).asks(0, watch(5)).told(events(added(6, held(3, 7, 9, 6)), added(7, held(3, 8, 9, 7)))).does(putFdb(fdb(3)))
	c.skips(putNeigh(neigh(7, 3)), sub(7)).does(putNeigh(neigh(8, 3)), putRoute(away(8))).asks(0, watch(7))
}

func TestP16_9Refused(t *testing.T) {
	l := held(me, 2, 20, 2)
	bad := []api.Lease{held(1, 2, 90, 9), held(-1, 2, 90, 9), held(64, 2, 90, 9), {}, at(l, base(2)+1, 24), at(l, base(2), 33), at(l, 0, -1), at(l, 0, math.MinInt), at(held(3, 2, 9, 9), base(2)+1, 24)}
	for _, x := range bad {
		seeing(t).asks(0, acquire(api.Prefix{})).refuses(grant(x), api.ErrAnswer).told(grant(l)).asks(0, acquire(sub(2)))
		b := seeing(t, l).asks(99, watch(4)).told(api.Resp{}).asks(99, renew(2)).refuses(grant(x), api.ErrAnswer)
		if v := b.told(grant(held(me, 2, 35, 2))).view(); v.Lease.Until != 35 {
			t.Errorf("P16.9: %+v", v)
		}
	}
}

// A grant of the own lease's subnet moves its end; one of another subnet leaves the view as it is.
func TestP16_9Until(t *testing.T) {
	own := held(me, 2, 20, 2)
	wrong := own
	wrong.MAC = mac(9)
	list := []api.Lease{held(1, 1, 9, 1), own, held(me, 3, 20, 3), held(4, 4, 9, 4)}
	for _, until := range []int64{math.MinInt64, -1, 0, 19, 20, 21, math.MaxInt64} {
		b := seeing(t, list...).asks(99, watch(4)).told(api.Resp{}).asks(99, renew(2)).told(grant(held(me, 2, until, 77)))
		want := slices.Clone(list)
		want[1].Until = until
		if v := b.view(); v.Lease != want[1] || !slices.Equal(v.Leases, want) || v.Cursor != 4 {
			t.Errorf("P16.9: Renew till %d: %+v", until, v)
		}
		for _, k := range []int{1, 3, 4, 7} {
			b = seeing(t, list...).asks(99, watch(4)).told(api.Resp{}).asks(99, renew(2)).told(grant(held(me, k, until, 77)))
			if v := b.view(); !slices.Equal(v.Leases, list) {
				t.Errorf("P16.9: Renew of the subnet %d: %+v", k, v)
			}
		}
		b = seeing(t, wrong).asks(0, acquire(sub(2))).told(grant(held(me, 2, until, 77)))
		moved := wrong
		moved.Until = until
		if v := b.view(); v.Lease != moved || !slices.Equal(v.Leases, []api.Lease{moved}) {
			t.Errorf("P16.9: Acquire till %d: %+v", until, v)
		}
		b = seeing(t, wrong).asks(0, acquire(sub(2))).told(grant(held(me, 3, until, 4)))
		if v := b.view(); v.Lease != wrong || !slices.Equal(v.Leases, []api.Lease{wrong}) {
			t.Errorf("P16.9: Acquire of another: %+v", v)
		}
		b.asks(0, acquire(sub(3)))
	}
	// A subnet of the same base and another length is another one.
	b := seeing(t, own).asks(99, watch(4)).told(api.Resp{}).asks(99, renew(2)).told(grant(at(held(me, 0, 55, 2), base(2), 25)))
	if v := b.view(); v.Lease != own {
		t.Errorf("P16.9: %+v", v)
	}
	// The subnet of another host's lease is not the own lease's.
	b = seeing(t, held(1, 1, 9, 1)).asks(0, acquire(api.Prefix{})).told(grant(held(me, 1, 55, 9)))
	if v := b.view(); !slices.Equal(v.Leases, []api.Lease{held(1, 1, 9, 1)}) {
		t.Errorf("P16.9: %+v", v)
	}
}

// A Renew neither grants nor wishes.
func TestP16_9RenewGrantsNothing(t *testing.T) {
	b := seeing(t, held(me, 2, 20, 2)).asks(99, watch(4)).told(api.Resp{}).asks(99, renew(2)).told(grant(held(me, 7, 90, 90)))
	b.asks(99, watch(4)).told(events(removed(5, held(me, 2, 20, 2)))).does(delRoute(local(2))).asks(99, acquire(sub(2)))
}

// The errors of an Acquire and of a Renew: each means something to its own request alone.
func TestP16_9Errors(t *testing.T) {
	due := func() both {
		return seeing(t, held(me, 2, 20, 2)).asks(99, watch(4)).told(api.Resp{}).asks(99, renew(2))
	}
	due().told(fail(api.ErrLease)).asks(99, snapshot).told(snap(9)).does(delRoute(local(2))).asks(99, acquire(sub(2)))
	due().told(fail(api.ErrFull)).asks(99, renew(2))
	seeing(t).asks(0, acquire(api.Prefix{})).told(fail(api.ErrLease)).asks(0, acquire(api.Prefix{})).told(fail(api.ErrFull)).asks(0, watch(4))
	for _, err := range []api.Errno{api.ErrCompacted, api.ErrFuture, api.ErrGone, api.ErrLag, api.ErrSeq} {
		due().told(fail(err)).asks(99, renew(2))
		seeing(t).asks(0, acquire(api.Prefix{})).told(fail(err)).asks(0, acquire(api.Prefix{}))
	}
}

func TestP16_10Refused(t *testing.T) {
	l := held(1, 3, 9, 6)
	for _, r := range []api.Resp{
		events(added(7, l)), events(added(5, l)), events(added(4, l)), events(added(0, l)), events(added(-6, l)), events(added(math.MinInt64, l)), events(added(math.MaxInt64, l)),
		events(added(6, l), added(8, l)), events(added(6, l), added(6, l)), events(added(7, l), added(6, l)), events(added(6, l), added(7, l), added(9, l)), events(added(6, l), added(7, l), added(8, l), added(8, l)),
		events(added(6, l), added(7, l), added(8, l), added(9, l), added(10, l)),
		events(api.Event{Rev: 6, Lease: l}), events(api.Event{Rev: 6, Kind: 3, Lease: l}), events(api.Event{Rev: 6, Kind: -1, Lease: l}), events(added(6, l), api.Event{Rev: 7, Kind: 3, Lease: l}),
		events(added(6, at(l, base(3)+1, 24))), events(removed(6, at(l, base(3)+1, 24))), events(added(6, at(l, 0, 33))), events(removed(6, at(l, 0, -1))), events(added(6, l), removed(7, at(l, 0, math.MaxInt))),
	} {
		b := example(t).asks(0, watch(5)).refuses(r, api.ErrAnswer).refuses(r, api.ErrAnswer)
		if v := b.view(); !v.Synced || v.Cursor != 5 {
			t.Errorf("P16.10: %+v", v)
		}
		r.Err = api.ErrDown
		b.told(r).asks(0, watch(5))
	}
}

// Up to four events, of any hosts.
func TestP16_10Taken(t *testing.T) {
	var list []api.Event
	leases := []api.Lease{held(1, 1, 9, 2), held(me, 2, 20, 5)}
	for i := range 4 {
		l := held(3+i, 3+i, int64(i), 2*int64(i))
		list = append(list, added(6+int64(i), l))
		leases = append(leases, l)
		v := example(t).asks(0, watch(5)).told(events(list...)).view()
		if v.Cursor != 6+int64(i) || !slices.Equal(v.Leases, leases) || v.Synced {
			t.Errorf("P16.10: %d events: %+v", i+1, v)
		}
	}
	odd := []api.Lease{{Host: -9, Subnet: api.Prefix{}, Until: math.MinInt64, Rev: -4}, {Host: math.MaxInt, Subnet: api.Prefix{Addr: math.MaxUint32, Len: 32}, Rev: math.MaxInt64}}
	v := example(t).asks(0, watch(5)).told(events(added(6, odd[1]), added(7, odd[0]))).view()
	if !slices.Equal(v.Leases, []api.Lease{odd[0], held(1, 1, 9, 2), held(me, 2, 20, 5), odd[1]}) {
		t.Errorf("P16.10: %+v", v)
	}
}

// The revisions end with the whole numbers that an int64 has.
func TestP16_10LastRevision(t *testing.T) {
	l := held(1, 1, 9, 1)
	last := int64(math.MaxInt64)
	near := func(rev int64) both {
		return fresh(t).asks(0, snapshot).told(snap(rev, held(me, 2, last, 1))).does(putRoute(local(2))).asks(0, watch(rev))
	}
	for _, rev := range []int64{last, 0, 1, math.MinInt64, math.MinInt64 + 1, -1} {
		near(last).refuses(events(added(rev, l)), api.ErrAnswer)
	}
	near(last).told(api.Resp{}).asks(0, watch(last))
	near(last-1).refuses(events(added(last, l), added(math.MinInt64, l)), api.ErrAnswer).refuses(events(added(last, l), removed(last, l)), api.ErrAnswer)
	b := near(last-1).told(events(added(last, l))).settle(0).asks(0, watch(last))
	b.refuses(events(added(math.MinInt64, l)), api.ErrAnswer).told(fail(api.ErrFuture)).asks(0, snapshot)
	near(last-4).told(events(added(last-3, l), added(last-2, l), added(last-1, l), removed(last, l))).asks(0, watch(last))
	near(last-3).refuses(events(added(last-2, l), added(last-1, l), added(last, l), added(math.MinInt64, l)), api.ErrAnswer)
}

// Added takes the place of what has the subnet, whoever had it; Removed takes it out by the subnet alone.
func TestP16_10AddedRemoved(t *testing.T) {
	see := func(evs ...api.Event) []api.Lease {
		t.Helper()
		return example(t).asks(0, watch(5)).told(events(evs...)).view().Leases
	}
	one, own := held(1, 1, 9, 2), held(me, 2, 20, 5)
	for _, row := range []struct{ got, want []api.Lease }{
		{see(added(6, held(3, 1, 8, 6))), []api.Lease{held(3, 1, 8, 6), own}},
		{see(added(6, held(3, 2, 8, 6))), []api.Lease{one, held(3, 2, 8, 6)}},
		{see(added(6, held(me, 1, 8, 6))), []api.Lease{held(me, 1, 8, 6), own}},
		{see(added(6, held(me, 0, 8, 6))), []api.Lease{held(me, 0, 8, 6), one, own}},
		{see(added(6, at(one, base(0), 23))), []api.Lease{at(one, base(0), 23), one, own}},
		{see(added(6, at(one, base(1), 25))), []api.Lease{one, at(one, base(1), 25), own}},
		{see(removed(6, held(77, 1, 0, 0))), []api.Lease{own}},
		{see(removed(6, held(1, 2, 0, 0))), []api.Lease{one}},
		{see(removed(6, held(1, 9, 0, 0))), []api.Lease{one, own}},
		{see(removed(6, at(one, base(1), 25))), []api.Lease{one, own}},
		{see(removed(6, one), removed(7, own)), nil},
		{see(removed(6, one), added(7, held(1, 1, 5, 7))), []api.Lease{held(1, 1, 5, 7), own}},
		{see(added(6, held(4, 4, 5, 6)), removed(7, held(4, 4, 5, 6))), []api.Lease{one, own}},
		{see(added(6, held(4, 4, 5, 6)), added(7, held(4, 4, 6, 7)), removed(8, one)), []api.Lease{own, held(4, 4, 6, 7)}},
	} {
		if !slices.Equal(row.got, row.want) {
			t.Errorf("P16.10: %+v, want %+v", row.got, row.want)
		}
	}
}

// Removed makes a subnet skipped no longer; Added leaves it skipped.
func TestP16_10Skipped(t *testing.T) {
	l := held(3, 7, 9, 6)
	skip := func() both {
		t.Helper()
		return example(t).asks(0, watch(5)).told(events(added(6, l), added(7, held(4, 8, 9, 7)))).skips(putFdb(fdb(3)), sub(7)).skips(putFdb(fdb(4)), sub(7), sub(8)).asks(0, watch(7))
	}
	if v := skip().told(events(added(8, held(5, 7, 9, 8)))).asks(0, watch(8)).view(); !slices.Equal(v.Skipped, []api.Prefix{sub(7), sub(8)}) {
		t.Errorf("P16.10: %+v", v)
	}
	if v := skip().told(events(removed(8, l))).asks(0, watch(8)).view(); !slices.Equal(v.Skipped, []api.Prefix{sub(8)}) || !v.Degraded {
		t.Errorf("P16.10: %+v", v)
	}
	if v := skip().told(events(removed(8, held(1, 9, 9, 6)))).view(); !slices.Equal(v.Skipped, []api.Prefix{sub(7), sub(8)}) {
		t.Errorf("P16.10: %+v", v)
	}
	skip().told(events(removed(8, l), added(9, held(5, 7, 9, 8)))).does(putFdb(fdb(5)), putNeigh(neigh(7, 5)), putRoute(away(7))).asks(0, watch(9))
	// An own subnet that is skipped: a loss and a new lease bring its route again.
	b := fresh(t).asks(0, snapshot).told(snap(4, held(me, 2, 900, 2))).skips(putRoute(local(2)), sub(2)).asks(0, watch(4))
	b.told(events(removed(5, held(me, 2, 900, 2)), added(6, held(me, 2, 900, 6)))).does(putRoute(local(2))).asks(0, watch(6))
}

// What tells that the events are gone makes the agent stale; its cursor and its view stay till the snapshot comes.
func TestP16_10Lost(t *testing.T) {
	for _, err := range []api.Errno{api.ErrCompacted, api.ErrFuture, api.ErrGone, api.ErrLag, api.ErrSeq} {
		b := example(t).asks(0, watch(5)).told(api.Resp{Err: err, Events: make([]api.Event, 7)})
		if v := b.view(); v.Cursor != 5 || len(v.Leases) != 2 || v.Synced {
			t.Errorf("P16.10: behind %d: %+v", err, v)
		}
		b.asks(99, snapshot).told(fail(api.ErrDown)).asks(99, snapshot).told(snap(2, held(me, 2, 900, 2))).settle(0).asks(0, watch(2))
	}
}

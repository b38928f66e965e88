package agent

import (
	"slices"
	"testing"

	"weft/api"
)

// spoil writes over a list, its spare room too, and appends to it.
func spoil[E any](list []E, e E) {
	for i := range list[:cap(list)] {
		list[:cap(list)][i] = e
	}
	_ = append(list, e)
}

func spoilOps(list []api.Op) { spoil(list, api.Op{Kind: 77}) }

func spoilTables(t api.Tables) {
	spoil(t.Routes, api.Route{Via: 77, Local: true})
	spoil(t.Neighs, api.Neigh{IP: 77})
	spoil(t.Fdbs, api.Fdb{To: 77})
}

func spoilView(v api.View) {
	spoil(v.Leases, api.Lease{Host: me, Until: 77})
	spoil(v.Skipped, sub(77))
	spoilTables(v.Have)
}

func spoilResp(r api.Resp) {
	spoil(r.Snap.Leases, api.Lease{Host: me, Until: 77})
	spoil(r.Events, api.Event{Rev: 77})
	spoilTables(r.Tables)
}

// withRoom is a copy of a list with spare room, in which something stands.
func withRoom[E any](list []E, e E) []E {
	return append(append([]E{}, list...), e, e, e)[:len(list)]
}

func roomy(t api.Tables) api.Tables {
	return tables(withRoom(t.Routes, api.Route{Via: 55}), withRoom(t.Neighs, api.Neigh{IP: 55}), withRoom(t.Fdbs, api.Fdb{To: 55}))
}

func roomyResp(r api.Resp) api.Resp {
	r.Snap.Leases = withRoom(r.Snap.Leases, api.Lease{Host: 55})
	r.Events = withRoom(r.Events, api.Event{Rev: 55})
	r.Tables = roomy(r.Tables)
	return r
}

// wholeRoom is a copy of tables with what stands in their spare room.
func wholeRoom(t api.Tables) api.Tables {
	return copyTables(tables(t.Routes[:cap(t.Routes)], t.Neighs[:cap(t.Neighs)], t.Fdbs[:cap(t.Fdbs)]))
}

func wholeResp(r api.Resp) api.Resp {
	r.Snap.Leases = r.Snap.Leases[:cap(r.Snap.Leases)]
	r.Events = r.Events[:cap(r.Events)]
	r.Tables = wholeRoom(r.Tables)
	return copyResp(r)
}

func sameResp(a, b api.Resp) bool {
	return a.Err == b.Err && a.Answer == b.Answer && a.Snap.Rev == b.Snap.Rev && a.Snap.Now == b.Snap.Now &&
		slices.Equal(a.Snap.Leases, b.Snap.Leases) && slices.Equal(a.Events, b.Events) && sameTables(a.Tables, b.Tables)
}

// tell hands an answer in, looks whether it stayed as it was, and writes over it then.
func (b both) tell(r api.Resp) api.Errno {
	b.t.Helper()
	mine := roomyResp(r)
	was := wholeResp(mine)
	got, want := b.a.Done(mine), b.m.done(copyResp(r))
	if got != want {
		b.t.Fatalf("P16.5: Done(%+v) = %d, want %d", r, got, want)
	}
	if !sameResp(wholeResp(mine), was) {
		b.t.Fatalf("P16.13: Done changed what it was handed: %+v, was %+v", wholeResp(mine), was)
	}
	spoilResp(mine)
	b.view()
	if !sameResp(wholeResp(mine), spoilt(was)) {
		b.t.Fatalf("P16.13: what was handed in became %+v", wholeResp(mine))
	}
	return got
}

// spoilt is a copy of an answer, written over.
func spoilt(r api.Resp) api.Resp {
	r = copyResp(r)
	spoilResp(r)
	return r
}

// What is handed in is neither changed nor kept, whatever the request and whether it is taken or refused.
func TestP16_13HandedIn(t *testing.T) {
	r := dice()
	for range 60 {
		b := begun(t, self())
		for range 120 {
			req := b.next(int64(r.Intn(40)))
			b.tell(anyResp(r, b, req))
		}
	}
}

// What is answered is the caller's own: written over and appended to, it changes neither the agent nor another answer.
func TestP16_13Answered(t *testing.T) {
	r := dice()
	for range 60 {
		b := begun(t, self())
		for range 100 {
			one, two := b.view(), b.view()
			was := copyView(two)
			spoilView(one)
			if !sameView(two, was) {
				t.Fatalf("P16.13: another view became %+v, was %+v", two, was)
			}
			b.view()
			req := b.next(int64(r.Intn(40)))
			b.done(anyResp(r, b, req))
			if !sameView(two, was) {
				t.Fatalf("P16.13: an earlier view became %+v, was %+v", two, was)
			}
			spoilView(two)
			b.view()
		}
	}
}

// No list of a view shares memory with another one of it.
func TestP16_13ListsApart(t *testing.T) {
	b := example(t).asks(0, watch(5)).told(events(added(6, held(3, 7, 9, 6)), added(7, held(4, 8, 9, 7)))).
		does(putFdb(fdb(3))).asks(0, kernel(putFdb(fdb(4)))).told(fail(api.ErrFull))
	lists := []func(v api.View){
		func(v api.View) { spoil(v.Leases, api.Lease{Until: 77}) },
		func(v api.View) { spoil(v.Skipped, sub(77)) },
		func(v api.View) { spoil(v.Have.Routes, api.Route{Via: 77}) },
		func(v api.View) { spoil(v.Have.Neighs, api.Neigh{IP: 77}) },
		func(v api.View) { spoil(v.Have.Fdbs, api.Fdb{To: 77}) },
	}
	for i, spoilOne := range lists {
		v := b.view()
		was := copyView(v)
		spoilOne(v)
		// All lists but that one are what they were.
		switch i {
		case 0:
			v.Leases = was.Leases
		case 1:
			v.Skipped = was.Skipped
		case 2:
			v.Have.Routes = was.Have.Routes
		case 3:
			v.Have.Neighs = was.Have.Neighs
		case 4:
			v.Have.Fdbs = was.Have.Fdbs
		}
		if !sameView(v, was) {
			t.Errorf("P16.13: list %d shares memory: %+v", i, v)
		}
	}
}

// Lists that are nil and lists that are empty are the same.
func TestP0_4NilAndEmpty(t *testing.T) {
	none := api.Resp{Snap: api.Snap{Leases: []api.Lease{}}, Events: []api.Event{}, Tables: tables(routes(), neighs(), fdbs())}
	for _, r := range []api.Resp{{}, none} {
		b := begun(t, self()).asks(0, dump).told(r).asks(0, snapshot).told(r)
		b.asks(0, acquire(api.Prefix{})).told(fail(api.ErrFull)).asks(0, watch(0)).told(r)
		if !b.view().Synced {
			t.Errorf("P0.4: not synced behind %+v", r)
		}
	}
}

package agent

import (
	"math/rand"
	"slices"
	"testing"

	"weft/api"
)

// me is the host of the tests' agents.
const me = 2

// dice rolls the same way in every run.
func dice() *rand.Rand {
	return rand.New(rand.NewSource(16))
}

// sub is the subnet 10.0.k.0/24.
func sub(k int) api.Prefix {
	return api.Prefix{Addr: api.Addr(10<<24 + k<<8), Len: 24}
}

// base is the first address of sub(k).
func base(k int) api.Addr { return sub(k).Addr }

func mac(k int) api.MAC { return api.MAC{2, 5: byte(k)} }

func pub(k int) api.Addr { return 0xc0000200 + api.Addr(k) }

// self is the host of the chapter's examples.
func self() api.Self {
	return api.Self{Host: me, Pub: pub(me), MAC: mac(me), Renew: 5}
}

// held is a lease of a host, of 10.0.k.0/24.
func held(host, k int, until, rev int64) api.Lease {
	return api.Lease{Host: host, Subnet: sub(k), Pub: pub(host), MAC: mac(host), Until: until, Rev: rev}
}

// at is a lease with another subnet.
func at(l api.Lease, addr api.Addr, n int) api.Lease {
	l.Subnet = api.Prefix{Addr: addr, Len: n}
	return l
}

func local(k int) api.Route { return api.Route{Dst: sub(k), Local: true} }

func away(k int) api.Route { return api.Route{Dst: sub(k), Via: base(k)} }

func neigh(k, host int) api.Neigh { return api.Neigh{IP: base(k), MAC: mac(host)} }

func fdb(host int) api.Fdb { return api.Fdb{MAC: mac(host), To: pub(host)} }

func routes(list ...api.Route) []api.Route { return list }

func neighs(list ...api.Neigh) []api.Neigh { return list }

func fdbs(list ...api.Fdb) []api.Fdb { return list }

func tables(r []api.Route, n []api.Neigh, f []api.Fdb) api.Tables {
	return api.Tables{Routes: r, Neighs: n, Fdbs: f}
}

func putRoute(r api.Route) api.Op { return api.Op{Kind: api.PutRoute, Route: r} }
func delRoute(r api.Route) api.Op { return api.Op{Kind: api.DelRoute, Route: r} }
func putNeigh(n api.Neigh) api.Op { return api.Op{Kind: api.PutNeigh, Neigh: n} }
func delNeigh(n api.Neigh) api.Op { return api.Op{Kind: api.DelNeigh, Neigh: n} }
func putFdb(f api.Fdb) api.Op     { return api.Op{Kind: api.PutFdb, Fdb: f} }
func delFdb(f api.Fdb) api.Op     { return api.Op{Kind: api.DelFdb, Fdb: f} }

func added(rev int64, l api.Lease) api.Event {
	return api.Event{Rev: rev, Kind: api.Added, Lease: l}
}

func removed(rev int64, l api.Lease) api.Event {
	return api.Event{Rev: rev, Kind: api.Removed, Lease: l}
}

func kernel(op api.Op) api.Req { return api.Req{Kind: api.ReqKernel, Op: op} }

func acquire(wish api.Prefix) api.Req {
	return api.Req{Kind: api.ReqAcquire, Cmd: api.Cmd{Kind: api.Acquire, Host: me, Subnet: wish, Pub: pub(me), MAC: mac(me)}}
}

func renew(k int) api.Req {
	return api.Req{Kind: api.ReqRenew, Cmd: api.Cmd{Kind: api.Renew, Host: me, Subnet: sub(k)}}
}

func watch(from int64) api.Req { return api.Req{Kind: api.ReqWatch, From: from, Max: 4} }

var (
	dump     = api.Req{Kind: api.ReqDump}
	snapshot = api.Req{Kind: api.ReqSnapshot}
)

func fail(err api.Errno) api.Resp { return api.Resp{Err: err} }

func dumped(t api.Tables) api.Resp { return api.Resp{Tables: t} }

func snap(rev int64, list ...api.Lease) api.Resp {
	return api.Resp{Snap: api.Snap{Rev: rev, Leases: list}}
}

func grant(l api.Lease) api.Resp { return api.Resp{Answer: api.Answer{Lease: l}} }

func events(list ...api.Event) api.Resp { return api.Resp{Events: list} }

func sameTables(a, b api.Tables) bool {
	return slices.Equal(a.Routes, b.Routes) && slices.Equal(a.Neighs, b.Neighs) && slices.Equal(a.Fdbs, b.Fdbs)
}

func sameView(a, b api.View) bool {
	return a.Has == b.Has && a.Lease == b.Lease && a.Cursor == b.Cursor && a.Synced == b.Synced && a.Degraded == b.Degraded &&
		slices.Equal(a.Leases, b.Leases) && slices.Equal(a.Skipped, b.Skipped) && sameTables(a.Have, b.Have)
}

// copyTables, copyResp and copyView are the same in memory of their own, without the program's help.
func copyTables(t api.Tables) api.Tables {
	return tables(append([]api.Route{}, t.Routes...), append([]api.Neigh{}, t.Neighs...), append([]api.Fdb{}, t.Fdbs...))
}

func copyResp(r api.Resp) api.Resp {
	r.Snap.Leases = append([]api.Lease{}, r.Snap.Leases...)
	r.Events = append([]api.Event{}, r.Events...)
	r.Tables = copyTables(r.Tables)
	return r
}

func copyView(v api.View) api.View {
	v.Leases = append([]api.Lease{}, v.Leases...)
	v.Skipped = append([]api.Prefix{}, v.Skipped...)
	v.Have = copyTables(v.Have)
	return v
}

// both is an agent beside its model: each call asks both, and holds their answers against each other.
type both struct {
	t *testing.T
	a *Agent
	m *model
}

func begun(t *testing.T, s api.Self) both {
	t.Helper()
	a, err := New(s)
	if a == nil || err != api.OK {
		t.Fatalf("P16.3: New(%+v) = %v, %d", s, a, err)
	}
	return both{t, a, modelOf(s)}
}

func (b both) next(now int64) api.Req {
	b.t.Helper()
	got, want := b.a.Next(now), b.m.next(now)
	if got != want {
		b.t.Fatalf("P16.4: Next(%d) = %+v, want %+v", now, got, want)
	}
	return got
}

func (b both) done(r api.Resp) api.Errno {
	b.t.Helper()
	got, want := b.a.Done(r), b.m.done(r)
	if got != want {
		b.t.Fatalf("P16.5: Done(%+v) = %d, want %d", r, got, want)
	}
	return got
}

func (b both) view() api.View {
	b.t.Helper()
	got, want := b.a.View(), b.m.view()
	if !sameView(got, want) {
		b.t.Fatalf("P16.11: View = %+v, want %+v", got, want)
	}
	return got
}

// asks tells that the next request at a tick is that one.
func (b both) asks(now int64, want api.Req) both {
	b.t.Helper()
	if got := b.next(now); got != want {
		b.t.Fatalf("P16.4: Next(%d) = %+v, want %+v", now, got, want)
	}
	return b
}

// told tells the agent what came of its request, and it takes it.
func (b both) told(r api.Resp) both {
	b.t.Helper()
	if err := b.done(r); err != api.OK {
		b.t.Fatalf("P16.5: Done(%+v) = %d", r, err)
	}
	b.view()
	return b
}

// refuses tells that the agent does not take an answer, that nothing changes by it, and that the request stays open.
func (b both) refuses(r api.Resp, want api.Errno) both {
	b.t.Helper()
	was, open := copyView(b.view()), b.next(0)
	if err := b.done(r); err != want {
		b.t.Fatalf("P16.5: Done(%+v) = %d, want %d", r, err, want)
	}
	if now := b.view(); !sameView(was, now) {
		b.t.Fatalf("P16.5: a refused answer changed the view from %+v to %+v", was, now)
	}
	return b.asks(99, open)
}

// does tells that the agent asks for changes of its kernel, one behind the other, and tells it that they were made.
func (b both) does(ops ...api.Op) both {
	b.t.Helper()
	for _, op := range ops {
		b.asks(0, kernel(op)).told(api.Resp{})
	}
	return b
}

// fresh is an agent of the chapter's host that has read empty tables.
func fresh(t *testing.T) both {
	t.Helper()
	return begun(t, self()).asks(0, dump).told(api.Resp{})
}

// settle does all that the agent asks of its kernel at a tick.
func (b both) settle(now int64) both {
	b.t.Helper()
	for range 1000 {
		if b.next(now).Kind != api.ReqKernel {
			return b
		}
		b.told(api.Resp{})
	}
	b.t.Fatal("P16.4: it asks the kernel for ever")
	return b
}

// seeing is an agent whose view are these leases of the revision 4, with the tables for them.
func seeing(t *testing.T, list ...api.Lease) both {
	t.Helper()
	return fresh(t).asks(0, snapshot).told(snap(4, list...)).settle(-1 << 62)
}

// example is the agent behind the chapter's fourth example.
func example(t *testing.T) both {
	t.Helper()
	l := held(me, 2, 20, 5)
	return seeing(t, held(1, 1, 9, 2)).asks(0, acquire(api.Prefix{})).told(grant(l)).asks(0, watch(4)).
		told(events(added(5, l))).does(putRoute(local(2))).asks(0, watch(5)).told(api.Resp{})
}

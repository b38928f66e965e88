package agent

import (
	"math/rand"
	"slices"
	"testing"

	"weft/api"
	"weft/lease"
	kernels "weft/tables"
)

// machine is a host of a run: its kernel, and its agent with the agent's model.
type machine struct {
	b      both
	kernel *kernels.Kernel
	boots  byte
	lost   bool // its last Watch or Snapshot showed that its lease is gone, and its kernel has a local route
}

// run is hosts around one store.
type run struct {
	t     *testing.T
	r     *rand.Rand
	store *lease.Store
	now   int64
	room  int
	hosts []*machine
}

func runOf(t *testing.T, r *rand.Rand, hosts, subnets, log, room int) *run {
	store, err := lease.New(api.Config{
		Network: api.Prefix{Addr: 10 << 24, Len: 16}, SubnetLen: 24, Min: base(1), Max: base(subnets), VNI: 1, Port: 4789, MTU: 1500, TTL: 40, Renew: 10,
		Log: log, Hosts: hosts, First: pub(0), Routes: room, Neighs: room, Fdbs: room, Room: 64,
	})
	if err != api.OK {
		t.Fatalf("lease.New: %d", err)
	}
	w := &run{t: t, r: r, store: store, room: room}
	for h := range hosts {
		k, err := kernels.New(room, room, room)
		if err != api.OK {
			t.Fatalf("tables.New: %d", err)
		}
		w.hosts = append(w.hosts, &machine{kernel: k})
		w.start(h)
	}
	return w
}

// start gives a host a new agent, which knows nothing.
func (w *run) start(h int) {
	m := w.hosts[h]
	m.b = begun(w.t, api.Self{Host: h, Pub: pub(h), MAC: api.MAC{2, m.boots, 5: byte(h)}, Renew: 10})
	m.lost = false
}

// reboot empties a host's kernel, and gives it another MAC and a new agent.
func (w *run) reboot(h int) {
	w.hosts[h].boots++
	w.hosts[h].kernel.Flush()
	w.start(h)
}

func (w *run) tick(n int64) {
	w.now = w.store.Apply(api.Cmd{Kind: api.Tick, N: n}).Now
}

// fulfil does what an agent asks for.
func (w *run) fulfil(m *machine, req api.Req) api.Resp {
	switch req.Kind {
	case api.ReqDump:
		return api.Resp{Tables: m.kernel.Dump()}
	case api.ReqKernel:
		_, err := m.kernel.Do(req.Op)
		return fail(err)
	case api.ReqSnapshot:
		return api.Resp{Snap: w.store.Snapshot()}
	case api.ReqAcquire, api.ReqRenew:
		answer := w.store.Apply(req.Cmd)
		return api.Resp{Err: answer.Err, Answer: answer}
	}
	evs, err := w.store.Watch(req.From, req.Max)
	return api.Resp{Err: err, Events: evs}
}

// step is one request of a host's agent and its answer; lose: 1, if it is not heard, 2, if its answer is not. True, if it was a Watch that brought nothing.
func (w *run) step(h, lose int) bool {
	w.t.Helper()
	m := w.hosts[h]
	req := m.b.next(w.now)
	if m.lost && (req.Kind != api.ReqKernel || req.Op.Kind != api.DelRoute || !req.Op.Route.Local) {
		w.t.Fatalf("P16.12: host %d asks for %+v, and its lease is gone", h, req)
	}
	resp := fail(api.ErrDown)
	if lose != 1 {
		resp = w.fulfil(m, req)
	}
	if lose == 2 {
		resp = fail(api.ErrDown)
	}
	if err := m.b.done(resp); err != api.OK {
		w.t.Fatalf("P16.5: host %d, of %+v: Done(%+v) = %d", h, req, resp, err)
	}
	w.hold(h, req, resp)
	return req.Kind == api.ReqWatch && resp.Err == api.OK && len(resp.Events) == 0
}

// hold holds what is so at every point of a run.
func (w *run) hold(h int, req api.Req, resp api.Resp) {
	w.t.Helper()
	m := w.hosts[h]
	have := m.kernel.Dump()
	if !layOf(have).isWhole() {
		w.t.Fatalf("P16.2: host %d has a route that leads nowhere: %+v", h, have)
	}
	v := m.b.view()
	isLocal := func(r api.Route) bool { return r.Local }
	if (req.Kind == api.ReqWatch || req.Kind == api.ReqSnapshot) && resp.Err == api.OK || m.lost {
		m.lost = !v.Has && slices.ContainsFunc(v.Have.Routes, isLocal)
	}
	local := 0
	for _, r := range have.Routes {
		if r.Local {
			local++
		}
	}
	if local > 1 {
		w.t.Fatalf("P16.12: host %d has several local routes: %+v", h, have)
	}
}

// calm lets all hosts make steps till all are quiet, and nothing is lost any more.
func (w *run) calm() {
	w.t.Helper()
	for range 2000 {
		still := true
		for h := range w.hosts {
			still = w.step(h, 0) && still
		}
		if still {
			return
		}
	}
	w.t.Fatal("P16.4: the agents come to no rest")
}

// any does anything that may happen to a network.
func (w *run) any() {
	w.t.Helper()
	h := w.r.Intn(len(w.hosts))
	switch w.r.Intn(40) {
	case 0:
		w.start(h)
	case 1:
		w.reboot(h)
	case 2, 3:
		w.tick(int64(w.r.Intn(15)))
	case 4:
		w.tick(int64(w.r.Intn(60)))
	case 5:
		w.store.Apply(api.Cmd{Kind: api.Release, Host: h})
	case 6, 7, 8:
		w.step(h, 1)
	case 9, 10, 11:
		w.step(h, 2)
	default:
		w.step(h, 0)
	}
}

// settled holds what is so when all agents are at rest and the tables are wide enough.
func (w *run) settled() {
	w.t.Helper()
	snap := w.store.Snapshot()
	for h, m := range w.hosts {
		want := Plan(snap.Leases, h)
		if got := m.kernel.Dump(); !sameTables(got, want) {
			w.t.Fatalf("P16.4: host %d has %+v, the plan is %+v", h, got, want)
		}
		v := m.b.view()
		if !v.Synced || v.Degraded || v.Cursor != snap.Rev || len(v.Skipped) != 0 || !sameTables(v.Have, want) || !sameLeases(v.Leases, snap.Leases) {
			w.t.Fatalf("P16.11: host %d: %+v, the store has %+v", h, v, snap)
		}
	}
}

// sameLeases: but for Until, of which no event tells.
func sameLeases(a, b []api.Lease) bool {
	return slices.EqualFunc(a, b, func(x, y api.Lease) bool {
		x.Until, y.Until = 0, 0
		return x == y
	})
}

// Whole runs with crashes, lost calls, leases that end and that are taken away: at rest each host has the tables that the leases ask for.
func TestP16_4Runs(t *testing.T) {
	r := dice()
	for range 120 {
		hosts := 1 + r.Intn(5)
		w := runOf(t, r, hosts, hosts+r.Intn(3), 1+r.Intn(12), 16)
		for range 3 {
			for range 10 + r.Intn(150) {
				w.any()
			}
			w.calm()
			w.settled()
			if got := len(w.store.Snapshot().Leases); got != hosts {
				t.Fatalf("P16.4: %d of %d hosts have a lease", got, hosts)
			}
		}
	}
}

// With fewer subnets than hosts some wait; when one goes another gets it.
func TestP16_4RunsShort(t *testing.T) {
	r := dice()
	for range 80 {
		hosts := 2 + r.Intn(4)
		subnets := 1 + r.Intn(hosts-1)
		w := runOf(t, r, hosts, subnets, 1+r.Intn(12), 16)
		for range 3 {
			for range 10 + r.Intn(100) {
				w.any()
			}
			w.calm()
			w.settled()
			if got := len(w.store.Snapshot().Leases); got != subnets {
				t.Fatalf("P16.4: %d leases of %d subnets", got, subnets)
			}
		}
	}
}

// While every host makes steps often enough no lease ends, however long it goes on.
func TestP16_4RunsRenew(t *testing.T) {
	w := runOf(t, dice(), 3, 3, 4, 16)
	w.calm()
	for range 200 {
		w.tick(9)
		w.calm()
		w.settled()
	}
	if s := w.store.Snapshot(); s.Rev != 3 || len(s.Leases) != 3 {
		t.Errorf("P16.4: %+v", s)
	}
}

// After a crash an agent ends with the same tables, and a host whose lease has ended asks for its old subnet again.
func TestP16_6RunsCrash(t *testing.T) {
	w := runOf(t, dice(), 3, 9, 4, 16)
	w.calm()
	was := w.store.Snapshot().Leases
	w.start(1)
	w.calm()
	w.settled()
	if now := w.store.Snapshot().Leases; !slices.Equal(now, was) {
		t.Errorf("P16.6: %+v, was %+v", now, was)
	}
	w.start(2)
	w.tick(40)
	if n := len(w.store.Snapshot().Leases); n != 0 {
		t.Fatalf("%d leases are left", n)
	}
	for range 60 {
		w.step(2, 0) // ahead of the others
	}
	w.calm()
	w.settled()
	for i, l := range w.store.Snapshot().Leases {
		if l.Host != was[i].Host || l.Subnet != was[i].Subnet {
			t.Errorf("P16.6: %+v, was %+v", l, was[i])
		}
	}
}

// Where a table is too small an agent leaves hosts out whole, and says so.
func TestP16_8RunsSmall(t *testing.T) {
	r := dice()
	degraded := 0
	for range 120 {
		hosts := 3 + r.Intn(4)
		w := runOf(t, r, hosts, hosts, 1+r.Intn(12), 1+r.Intn(hosts))
		for h := range w.hosts {
			w.hosts[h].kernel, _ = kernels.New(1+r.Intn(hosts), 1+r.Intn(hosts), 1+r.Intn(hosts))
		}
		for range 3 {
			for range 10 + r.Intn(150) {
				w.any()
			}
			w.calm()
			for h := range w.hosts {
				if w.served(h) {
					degraded++
				}
			}
		}
	}
	if degraded < 100 {
		t.Errorf("only %d hosts were degraded", degraded)
	}
}

// served holds what is so at rest where tables may be too small: of each lease a host has all or nothing. True, if it lacks one.
func (w *run) served(h int) bool {
	w.t.Helper()
	m := w.hosts[h]
	v, have := m.b.view(), m.kernel.Dump()
	var all []api.Lease
	for _, l := range w.store.Snapshot().Leases {
		if !slices.Contains(v.Skipped, l.Subnet) {
			all = append(all, l)
		}
	}
	if !v.Synced || !sameTables(have, Plan(all, h)) || !sameTables(have, v.Have) {
		w.t.Fatalf("P16.8: host %d: %+v, the kernel has %+v", h, v, have)
	}
	if len(v.Skipped) > 0 && !v.Degraded {
		w.t.Fatalf("P16.8: host %d skips and is not degraded: %+v", h, v)
	}
	return len(v.Skipped) > 0
}

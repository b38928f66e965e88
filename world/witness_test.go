package world

import (
	"bytes"
	"math/rand"
	"slices"
	"testing"

	"weft/agent"
	"weft/api"
	"weft/ip4"
)

// witness plays acts, and holds what DOC.md says of every point of every script. It knows the program by its acts alone.
type witness struct {
	t      *testing.T
	w      *World
	c      api.Config
	leases api.Reply // as they were when the store was last up
	disk   api.Disk  // of that time
	lost   []bool    // by host: its agent was shown that its lease is gone, and its kernel has a local route
}

func witnessed(t *testing.T, c api.Config) *witness {
	t.Helper()
	w, err := New(c)
	if err != api.OK {
		t.Fatalf("P19.1: New = %d", err)
	}
	return &witness{t: t, w: w, c: c, lost: make([]bool, c.Hosts)}
}

func (x *witness) ask(kind, h int) api.Reply { return x.w.Do(api.Act{Kind: kind, Host: h}) }

func (x *witness) isDown() bool { return x.ask(api.ActLeases, 0).Err == api.ErrDown }

func (x *witness) localRoutes(h int) []api.Route { return locals(x.ask(api.ActTables, h).Tables) }

// do plays an act and holds W2, W3, W6 and W11 behind it.
func (x *witness) do(a api.Act) api.Reply {
	x.t.Helper()
	flight := x.ask(api.ActFlight, 0).Flight
	heard := x.isHeard(a)
	cmd, writes := x.command(a)
	r := x.w.Do(a)
	x.confined(a, r, flight)
	x.leased(a, r, cmd, writes)
	x.neverHalf()
	x.letsGo(a, r, heard)
	return r
}

// isHeard tells whether a call of a host's agent would be answered now.
func (x *witness) isHeard(a api.Act) bool {
	if a.Kind != api.ActStep || a.Host < 0 || a.Host >= x.c.Hosts {
		return false
	}
	h := x.w.hosts[a.Host]
	return !x.isDown() && !h.fail && !h.mute
}

// command is what an act will give the store, as far as it is one command: an agent says it beforehand, and says the same again in its step.
func (x *witness) command(a api.Act) (api.Cmd, bool) {
	switch a.Kind {
	case api.ActTick:
		return api.Cmd{Kind: api.Tick, N: a.N}, true
	case api.ActRevoke:
		return api.Cmd{Kind: api.Release, Host: a.Host}, true
	case api.ActStep:
		if a.Host < 0 || a.Host >= x.c.Hosts || !x.w.hosts[a.Host].isRunning() || a.N != 1 {
			return api.Cmd{}, false
		}
		req := x.w.hosts[a.Host].agent.Next(x.w.server.clock)
		return req.Cmd, req.Kind == api.ReqAcquire || req.Kind == api.ReqRenew
	}
	return api.Cmd{}, false
}

// confined holds W2.
func (x *witness) confined(a api.Act, r api.Reply, flight []api.Sent) {
	x.t.Helper()
	most := map[int]int{api.ActSend: 1, api.ActRaw: 1, api.ActDeliver: 1, api.ActFlush: int(r.N)}[a.Kind]
	if len(r.Given) > most {
		x.t.Fatalf("W2: Do(%s) gives %d packets", brief(a), len(r.Given))
	}
	for _, g := range r.Given {
		p, err := ip4.Parse(g.Bytes)
		if err != api.OK || p.Head.Dst != g.To {
			x.t.Fatalf("W2: %s got %+v, %d", brief(g), p.Head, err)
		}
		if !slices.Contains(x.ask(api.ActPods, g.Host).Pods, api.Pod{Name: g.Name, Addr: g.To}) {
			x.t.Fatalf("W2: %s is no pod of host %d", g.Name, g.Host)
		}
		if !slices.ContainsFunc(x.localRoutes(g.Host), func(r api.Route) bool { return holds(r.Dst, g.To) }) {
			x.t.Fatalf("W2: %s lies in no local route of host %d", brief(g), g.Host)
		}
	}
	if r.Err != api.OK {
		return
	}
	switch a.Kind {
	case api.ActSend, api.ActRaw:
		x.joined(a.Host, a, r, flight)
	case api.ActDeliver:
		h := int(flight[a.At].To - x.c.First)
		x.joined(h, a, r, slices.Concat(flight[:a.At], flight[a.At+1:]))
	case api.ActLose, api.ActCopy, api.ActSpoil, api.ActFlush:
	default:
		x.joined(0, a, r, flight)
	}
}

func holds(p api.Prefix, a api.Addr) bool { return p.Len == 0 || (a^p.Addr)>>(32-p.Len) == 0 }

// joined holds what an act of host h put into flight behind what was there.
func (x *witness) joined(h int, a api.Act, r api.Reply, was []api.Sent) {
	x.t.Helper()
	now := x.ask(api.ActFlight, 0).Flight
	if len(now) < len(was) || !same(api.Reply{Flight: now[:len(was)]}, api.Reply{Flight: was}) {
		x.t.Fatalf("W2: Do(%s) changed what was in flight", brief(a))
	}
	out := now[len(was):]
	packets := slices.Contains([]int{api.ActSend, api.ActRaw, api.ActDeliver}, a.Kind)
	if packets && int64(len(out)) != r.N || !packets && len(out) > 0 {
		x.t.Fatalf("W2: Do(%s) put %d into flight: %s", brief(a), len(out), brief(r))
	}
	if len(out) == 0 {
		return
	}
	var body []byte
	first := inner(x.t, out[0])
	last := first
	for i, s := range out {
		p := inner(x.t, s)
		if s.To != out[0].To || p.Head.Src != first.Head.Src || p.Head.Dst != first.Head.Dst || p.Head.TTL != first.Head.TTL || p.Head.ID != first.Head.ID || p.Head.Off != first.Head.Off+len(body) || len(s.Bytes) > x.c.MTU {
			x.t.Fatalf("W2: piece %d of Do(%s) is %+v", i, brief(a), p.Head)
		}
		body = append(body, p.Body...)
		last = p
	}
	full := len(now) == api.MaxFlight
	if r.Verdict == api.VSent && a.Kind == api.ActSend {
		p := parsed(x.t, a.Bytes)
		if first.Head.Off != p.Head.Off || first.Head.Dst != p.Head.Dst || !bytes.Equal(body, p.Body) && !full || last.Head.MF != p.Head.MF && !full {
			x.t.Fatalf("W2: of Do(%s) there is in flight %s", brief(a), brief(out))
		}
		return
	}
	gate := slices.ContainsFunc(x.localRoutes(h), func(r api.Route) bool { return r.Dst.Addr+1 == first.Head.Src })
	if !gate || first.Head.TTL != 64 || first.Head.Proto != api.ProtoICMP || first.Head.Off != 0 || last.Head.MF && !full {
		x.t.Fatalf("W2: Do(%s) at host %d makes %+v", brief(a), h, first.Head)
	}
}

// leased holds W3.
func (x *witness) leased(a api.Act, r api.Reply, cmd api.Cmd, writes bool) {
	x.t.Helper()
	before := x.leases
	if x.isDown() {
		x.torn(a, cmd, writes)
		return
	}
	x.leases, x.disk = twin(x.ask(api.ActLeases, 0)), x.ask(api.ActDisk, 0).Disk
	x.disjoint(x.leases.Leases)
	if v, err := Open(x.c, x.disk); err != api.OK || !same(v.Do(api.Act{Kind: api.ActLeases}), x.leases) {
		x.t.Fatalf("W3: behind Do(%s) a new world over the disk has other leases, %d", brief(a), err)
	}
	if a.Kind == api.ActReopen && !same(x.leases, before) {
		x.t.Fatalf("W3: Reopen leads from %s to %s", brief(before), brief(x.leases))
	}
	for _, l := range before.Leases {
		ended := a.Kind == api.ActTick && r.Err == api.OK && l.Until <= r.N || a.Kind == api.ActRevoke && r.Err == api.OK && l.Host == a.Host
		there := slices.ContainsFunc(x.leases.Leases, func(k api.Lease) bool { return k.Host == l.Host && k.Subnet == l.Subnet && k.Until >= l.Until })
		if there == ended {
			x.t.Fatalf("W3: behind Do(%s) at %d: lease %+v, there: %v", brief(a), r.N, l, there)
		}
	}
}

// torn: what lies on the disk of a store that is down is what it had, or that with the command whose write tore.
func (x *witness) torn(a api.Act, cmd api.Cmd, writes bool) {
	x.t.Helper()
	d := x.ask(api.ActDisk, 0).Disk
	v, err := Open(x.c, d)
	if err != api.OK {
		x.t.Fatalf("W3: the disk that is left behind Do(%s) is refused: %d", brief(a), err)
	}
	got := v.Do(api.Act{Kind: api.ActLeases})
	x.disjoint(got.Leases)
	if !writes {
		if !sameDisk(d, x.disk) || !same(got, x.leases) {
			x.t.Fatalf("W3: Do(%s) gives the store no command, and the disk has %s, was %s", brief(a), brief(got), brief(x.leases))
		}
		return
	}
	after, _ := Open(x.c, x.disk)
	after.server.Command(cmd)
	if want := after.Do(api.Act{Kind: api.ActLeases}); !same(got, x.leases) && !same(got, want) {
		x.t.Fatalf("W3: Do(%s) tore: %s, was %s, would be %s", brief(a), brief(got), brief(x.leases), brief(want))
	}
	x.leases, x.disk = twin(got), d
}

// disjoint: subnets of the pool, one a host at most, a reserved one with its host alone.
func (x *witness) disjoint(leases []api.Lease) {
	x.t.Helper()
	hosts, subnets := map[int]bool{}, map[api.Prefix]bool{}
	for _, l := range leases {
		if hosts[l.Host] || subnets[l.Subnet] || !x.mayHave(l.Host, l.Subnet) {
			x.t.Fatalf("W3: %+v", leases)
		}
		hosts[l.Host], subnets[l.Subnet] = true, true
	}
}

// mayHave tells whether a host may have a subnet.
func (x *witness) mayHave(h int, s api.Prefix) bool {
	for _, r := range x.c.Reserved {
		if r.Host == h || r.Subnet == s {
			return r.Host == h && r.Subnet == s
		}
	}
	return s.Len == x.c.SubnetLen && s.Addr >= x.c.Min && s.Addr <= x.c.Max && s.Addr<<x.c.SubnetLen == 0
}

// neverHalf holds W6.
func (x *witness) neverHalf() {
	x.t.Helper()
	for h := range x.c.Hosts {
		t := x.ask(api.ActTables, h).Tables
		for _, r := range t.Routes {
			if !r.Local && !isWhole(r, t) {
				x.t.Fatalf("W6: host %d: the route %+v leads nowhere in %s", h, r, brief(t))
			}
		}
	}
}

func isWhole(r api.Route, t api.Tables) bool {
	i := slices.IndexFunc(t.Neighs, func(n api.Neigh) bool { return n.IP == r.Via })
	return i >= 0 && slices.ContainsFunc(t.Fdbs, func(f api.Fdb) bool { return f.MAC == t.Neighs[i].MAC })
}

// letsGo holds W11. Agents step one by one here.
func (x *witness) letsGo(a api.Act, r api.Reply, heard bool) {
	x.t.Helper()
	switch a.Kind {
	case api.ActCrash, api.ActReboot, api.ActCalm:
		for h := range x.lost {
			x.lost[h] = x.lost[h] && h != a.Host && a.Kind != api.ActCalm
		}
	case api.ActStep:
		if r.Err != api.OK {
			return
		}
		there := len(x.localRoutes(a.Host)) > 0
		if x.lost[a.Host] && (there || r.Req != api.ReqKernel) {
			x.t.Fatalf("W11: host %d knows that its lease is gone, asks for %d, and has %+v", a.Host, r.Req, x.localRoutes(a.Host))
		}
		shown := heard && (r.Req == api.ReqWatch || r.Req == api.ReqSnapshot) && !x.ask(api.ActView, a.Host).View.Has
		x.lost[a.Host] = shown && there
	}
}

// isWide tells whether the tables suffice.
func (x *witness) isWide() bool {
	return min(x.c.Routes, x.c.Neighs, x.c.Fdbs) >= x.c.Hosts
}

func (x *witness) calmRounds() int64 {
	return int64(4*(x.c.Routes+x.c.Neighs+x.c.Fdbs) + 16*(x.c.Log+x.c.Room) + 64*x.c.Hosts + 128)
}

// calm plays a Calm, and holds what is so behind one: W4, W9 and W10.
func (x *witness) calm() int64 {
	x.t.Helper()
	r := x.do(api.Act{Kind: api.ActCalm})
	if r.Err != api.OK || r.N < 1 || r.N > x.calmRounds() {
		x.t.Fatalf("W5: Calm = %s", brief(r))
	}
	x.settled()
	return r.N
}

// calms holds W5: of three right behind one another the third makes one round.
func (x *witness) calms() {
	x.t.Helper()
	one, two, three := x.calm(), x.calm(), x.calm()
	if one > 1 && two != 1 || three != 1 {
		x.t.Fatalf("W5: three Calms make %d, %d and %d rounds", one, two, three)
	}
}

// fair plays any fair order in the place of a Calm.
func (x *witness) fair(r *rand.Rand) {
	x.t.Helper()
	x.do(api.Act{Kind: api.ActReopen})
	for h := range x.c.Hosts {
		x.do(api.Act{Kind: api.ActStart, Host: h})
	}
	for range x.calmRounds() {
		order := r.Perm(x.c.Hosts)
		for range r.Intn(4) {
			order = slices.Insert(order, r.Intn(len(order)+1), r.Intn(x.c.Hosts))
		}
		quiet := 0
		for _, h := range order {
			quiet += int(x.do(api.Act{Kind: api.ActStep, Host: h, N: 1}).N)
		}
		if quiet == len(order) {
			x.settled()
			return
		}
	}
	x.t.Fatalf("W5: a fair order does not settle")
}

// settled holds what is so when all agents are quiet.
func (x *witness) settled() {
	x.t.Helper()
	leases := x.ask(api.ActLeases, 0).Leases
	for h := range x.c.Hosts {
		v, t := x.ask(api.ActView, h).View, x.ask(api.ActTables, h).Tables
		if !slices.Equal(timeless(v.Leases), timeless(leases)) {
			x.t.Fatalf("W4: host %d knows %+v, want %+v", h, v.Leases, leases)
		}
		plan := agent.Plan(leases, h)
		if x.isWide() && !same(api.Reply{Tables: t}, api.Reply{Tables: plan}) {
			x.t.Fatalf("W4: host %d has %s, want %s", h, brief(t), brief(plan))
		}
		x.smallTables(h, v, t, leases)
		x.served(h, leases)
	}
}

// timeless is leases without their ends.
func timeless(leases []api.Lease) []api.Lease {
	l := slices.Clone(leases)
	for i := range l {
		l[i].Until = 0
	}
	return l
}

// smallTables holds W10: of every lease the whole way or nothing, and nothing besides.
func (x *witness) smallTables(h int, v api.View, t api.Tables, leases []api.Lease) {
	x.t.Helper()
	var laid []api.Lease
	for _, l := range leases {
		if slices.ContainsFunc(t.Routes, func(r api.Route) bool { return r.Dst == l.Subnet }) {
			laid = append(laid, l)
		} else if !v.Degraded || !slices.Contains(v.Skipped, l.Subnet) {
			x.t.Fatalf("W10: host %d lacks %+v, and its agent says %v, %v", h, l, v.Degraded, v.Skipped)
		}
	}
	if want := agent.Plan(laid, h); !same(api.Reply{Tables: t}, api.Reply{Tables: want}) {
		x.t.Fatalf("W10: host %d has %s, want %s", h, brief(t), brief(want))
	}
}

// served holds W9.
func (x *witness) served(h int, leases []api.Lease) {
	x.t.Helper()
	if slices.ContainsFunc(leases, func(l api.Lease) bool { return l.Host == h }) {
		return
	}
	for k := range 256 {
		free := !slices.ContainsFunc(leases, func(l api.Lease) bool { return l.Subnet == sub(k) })
		if free && x.mayHave(h, sub(k)) {
			x.t.Fatalf("W9: host %d has no lease, and 10.5.%d.0/24 is free: %+v", h, k, leases)
		}
	}
}

// single is an act by dice in which agents step one by one.
func (g grind) single() api.Act {
	a := g.act(map[int]bool{api.ActCalm: true, api.ActRound: true})
	if a.Kind == api.ActStep && g.r.Intn(30) > 0 {
		a.N = 1
	} else if a.Kind == api.ActStep {
		a.Kind = api.ActFlush
		a.N = 3
	}
	return a
}

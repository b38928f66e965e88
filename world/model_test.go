package world

import (
	"cmp"
	"slices"

	"weft/agent"
	"weft/api"
	"weft/conf"
	"weft/ipam"
	"weft/path"
	kernels "weft/tables"
	"weft/vault"
)

// machine is a host of the model.
type machine struct {
	number     int
	boots      int
	kernel     *kernels.Kernel
	wire       *path.Path
	agent      *agent.Agent
	names      *ipam.Ipam
	sub        api.Prefix
	fail, mute bool
	watching   bool  // the hub would answer its polls; a watcher that lags is as one that is gone, since it leaves and asks the log
	seen       int64 // what it has acknowledged, while it is watching
}

// model is a world by the chapter's words. It has no hub: it keeps every event there ever was, and of a host whether and from where the hub would still hand them out.
type model struct {
	c      api.Config
	v      *vault.Vault
	clock  int64
	rev    int64
	events map[int64]api.Event
	hosts  []*machine
	flight []api.Sent
}

func modelOf(c api.Config, d api.Disk) (*model, api.Errno) {
	if err := conf.Check(c); err != api.OK {
		return nil, err
	}
	c.Reserved = slices.Clone(c.Reserved)
	m := &model{c: c, events: map[int64]api.Event{}}
	if err := m.open(d); err != api.OK {
		return nil, err
	}
	for h := range c.Hosts {
		k, _ := kernels.New(c.Routes, c.Neighs, c.Fdbs)
		x := &machine{number: h, kernel: k}
		m.hosts = append(m.hosts, x)
		m.boot(x)
	}
	return m, api.OK
}

// open is a new process of the store; what its log tells of the time ahead is known too.
func (m *model) open(d api.Disk) api.Errno {
	v, err := vault.Open(m.c, d)
	if err != api.OK {
		return err
	}
	snap, _ := v.Snapshot()
	m.v, m.clock, m.rev = v, snap.Now, snap.Rev
	kept, _ := v.Watch(max(0, m.rev-int64(m.c.Log)), 1000)
	for _, ev := range kept {
		m.events[ev.Rev] = ev
	}
	m.scatter()
	return api.OK
}

// scatter is a new hub, without watchers.
func (m *model) scatter() {
	for _, x := range m.hosts {
		x.watching = false
	}
}

func (m *model) address(x *machine) api.Addr { return m.c.First + api.Addr(x.number) }

func (m *model) mac(x *machine) api.MAC {
	mac := api.MAC{0: 2, 1: byte(x.boots % 256)}
	for i, a := 5, m.address(x); i > 1; i, a = i-1, a/256 {
		mac[i] = byte(a % 256)
	}
	return mac
}

func (m *model) boot(x *machine) {
	x.kernel.Flush()
	x.wire, _ = path.New(api.Env{Pub: m.address(x), MAC: m.mac(x), VNI: m.c.VNI, Port: m.c.Port, MTU: m.c.MTU}, x.kernel)
	x.names, x.sub = nil, api.Prefix{}
	m.start(x)
}

func (m *model) start(x *machine) {
	x.agent, _ = agent.New(api.Self{Host: x.number, Pub: m.address(x), MAC: m.mac(x), Renew: m.c.Renew})
}

// changes is the events of a command, found by what the leases were and are.
func changes(cmd api.Cmd, was, is api.Snap, answer api.Answer) []api.Event {
	if cmd.Kind == api.Acquire && is.Rev > was.Rev {
		return []api.Event{{Rev: is.Rev, Kind: api.Added, Lease: answer.Lease}}
	}
	if cmd.Kind == api.Release {
		return []api.Event{{Rev: is.Rev, Kind: api.Removed, Lease: answer.Lease}}
	}
	gone := slices.DeleteFunc(slices.Clone(was.Leases), func(l api.Lease) bool { return cmd.Kind != api.Tick || l.Until > is.Now })
	slices.SortStableFunc(gone, func(l, o api.Lease) int { return cmp.Compare(l.Until, o.Until) }) // they rise by subnet already
	var evs []api.Event
	for i, l := range gone {
		evs = append(evs, api.Event{Rev: was.Rev + 1 + int64(i), Kind: api.Removed, Lease: l})
	}
	return evs
}

func (m *model) command(cmd api.Cmd) api.Answer {
	was, _ := m.v.Snapshot()
	answer := m.v.Do(cmd)
	if answer.Err != api.OK {
		return answer
	}
	is, _ := m.v.Snapshot()
	evs := changes(cmd, was, is, answer)
	for _, ev := range evs {
		m.events[ev.Rev] = ev
	}
	m.clock, m.rev = is.Now, is.Rev
	if m.rev != was.Rev+int64(len(evs)) {
		panic("the model does not know all events")
	}
	if len(evs) > m.c.Log {
		m.scatter()
	}
	for _, x := range m.hosts {
		x.watching = x.watching && m.rev-x.seen <= int64(m.c.Room)
	}
	return answer
}

func (m *model) watch(x *machine, from int64, most int) ([]api.Event, api.Errno) {
	if m.v.Down() {
		return nil, api.ErrDown
	}
	if x.watching && from >= x.seen && from <= m.rev {
		x.seen = from
		return m.between(from, most), api.OK
	}
	x.watching = false
	if from > m.rev {
		return nil, api.ErrFuture
	}
	if m.rev-from > int64(m.c.Log) {
		return nil, api.ErrCompacted
	}
	evs := m.between(from, most)
	if from+int64(len(evs)) == m.rev {
		x.watching, x.seen = true, m.rev
	}
	return evs, api.OK
}

// between is the first events behind a revision.
func (m *model) between(from int64, most int) []api.Event {
	var evs []api.Event
	for rev := from + 1; rev <= m.rev && len(evs) < most; rev++ {
		evs = append(evs, m.events[rev])
	}
	return evs
}

// answer is what the store says to a call.
func (m *model) answer(x *machine, req api.Req) api.Resp {
	var r api.Resp
	switch req.Kind {
	case api.ReqSnapshot:
		r.Snap, r.Err = m.v.Snapshot()
	case api.ReqWatch:
		r.Events, r.Err = m.watch(x, req.From, req.Max)
	case api.ReqAcquire, api.ReqRenew:
		r.Answer = m.command(req.Cmd)
		r.Err = r.Answer.Err
	}
	return r
}

func (m *model) step(x *machine) (int, bool) {
	req := x.agent.Next(m.clock)
	var r api.Resp
	switch {
	case req.Kind == api.ReqDump:
		r.Tables = x.kernel.Dump()
	case req.Kind == api.ReqKernel:
		_, r.Err = x.kernel.Do(req.Op)
	case x.fail:
		x.fail = false
		r.Err = api.ErrDown
	case x.mute:
		x.mute = false
		m.answer(x, req)
		r.Err = api.ErrDown
	default:
		r = m.answer(x, req)
	}
	if err := x.agent.Done(r); err != api.OK {
		panic("an agent does not take its answer")
	}
	return req.Kind, req.Kind == api.ReqWatch && r.Err == api.OK && r.Events == nil
}

// stepAll is a round: how many steps were made, and how many of them were quiet.
func (m *model) stepAll() (made, quiet int64) {
	for _, x := range m.hosts {
		if x.agent == nil {
			continue
		}
		made++
		if _, q := m.step(x); q {
			quiet++
		}
	}
	return made, quiet
}

// named tells which kinds name a host, and which there are besides.
var named = map[int]bool{
	api.ActTick: false, api.ActStep: true, api.ActRound: false, api.ActCalm: false, api.ActCrash: true, api.ActStart: true, api.ActReboot: true, api.ActFail: true, api.ActMute: true,
	api.ActPod: true, api.ActUnpod: true, api.ActSend: true, api.ActRaw: true, api.ActDeliver: false, api.ActLose: false, api.ActCopy: false, api.ActSpoil: false, api.ActFlush: false,
	api.ActTear: false, api.ActReopen: false, api.ActRevoke: true, api.ActLeases: false, api.ActTables: true, api.ActView: true, api.ActPods: true, api.ActFlight: false, api.ActCounts: true,
	api.ActHolder: false, api.ActDisk: false,
}

func (m *model) do(a api.Act) api.Reply {
	names, there := named[a.Kind]
	r := api.Reply{Err: api.ErrArg}
	switch {
	case !there:
	case names && (a.Host < 0 || a.Host > len(m.hosts)-1):
		r.Err = api.ErrHost
	case names:
		r = m.doAt(m.hosts[a.Host], a)
	default:
		r = m.doAll(a)
	}
	if r.Err != api.OK {
		return api.Reply{Err: r.Err}
	}
	return r
}

func (m *model) doAt(x *machine, a api.Act) (r api.Reply) {
	switch a.Kind {
	case api.ActStep:
		if a.N < 1 || a.N > 256 {
			r.Err = api.ErrArg
		} else if x.agent == nil {
			r.Err = api.ErrStopped
		} else {
			for range a.N {
				var quiet bool
				if r.Req, quiet = m.step(x); quiet {
					r.N++
				}
			}
		}
	case api.ActCrash:
		if x.agent == nil {
			r.Err = api.ErrStopped
		}
		x.agent, x.watching = nil, false
	case api.ActStart:
		if x.agent != nil {
			r.Err = api.ErrUp
		} else {
			m.start(x)
		}
	case api.ActReboot:
		x.boots++
		x.watching = false
		m.boot(x)
		r.N = int64(x.boots)
	case api.ActFail:
		x.fail = true
	case api.ActMute:
		x.mute = true
	case api.ActPod:
		var a2 api.Addr
		a2, r.Err = m.pod(x, a.Name)
		r.N = int64(a2)
	case api.ActUnpod:
		r.Err = api.ErrNone
		if x.names != nil {
			var a2 api.Addr
			if a2, r.Err = x.names.Del(a.Name); r.Err == api.OK {
				x.wire.Unbind(a2)
				r.N = int64(a2)
			}
		}
	case api.ActSend:
		r = m.carried(x, x.wire.Send(a.Bytes))
	case api.ActRaw:
		r = m.carried(x, x.wire.Receive(a.Bytes))
	case api.ActRevoke:
		answer := m.command(api.Cmd{Kind: api.Release, Host: x.number})
		r.Err, r.N = answer.Err, answer.Rev
	case api.ActTables:
		r.Tables = x.kernel.Dump()
	case api.ActView:
		r.Err = api.ErrStopped
		if x.agent != nil {
			r.Err, r.View = api.OK, x.agent.View()
		}
	case api.ActPods:
		r.Pods = x.wire.Bound()
	case api.ActCounts:
		r.Counts = x.wire.Counts()
	}
	return r
}

func (m *model) pod(x *machine, name string) (api.Addr, api.Errno) {
	for _, route := range x.kernel.Dump().Routes {
		if !route.Local {
			continue
		}
		if x.names == nil || x.sub != route.Dst {
			for _, p := range x.wire.Bound() {
				x.wire.Unbind(p.Addr)
			}
			var err api.Errno
			if x.names, err = ipam.New(route.Dst); err != api.OK {
				return 0, err
			}
			x.sub = route.Dst
		}
		a, err := x.names.Add(name)
		if err == api.OK && x.wire.Bind(name, a) != api.OK {
			panic("a pod is not to be bound")
		}
		return a, err
	}
	return 0, api.ErrNoSub
}

func (m *model) carried(x *machine, res api.Result) api.Reply {
	r := api.Reply{Verdict: res.Verdict, Why: res.Err}
	for _, g := range res.Local {
		r.Given = append(r.Given, api.Given{Host: x.number, To: g.To, Name: g.Name, Bytes: g.Bytes})
	}
	for _, s := range res.Out {
		if len(m.flight) < 4096 {
			m.flight = append(m.flight, s)
			r.N++
		}
	}
	return r
}

// isFlying tells whether there is a packet i in flight.
func (m *model) isFlying(i int) bool { return 0 <= i && i < len(m.flight) }

func (m *model) deliver(i int) api.Reply {
	if !m.isFlying(i) {
		return api.Reply{Err: api.ErrNone}
	}
	s := m.flight[i]
	m.flight = slices.Concat(m.flight[:i], m.flight[i+1:])
	for _, x := range m.hosts {
		if m.address(x) == s.To {
			return m.carried(x, x.wire.Receive(s.Bytes))
		}
	}
	return api.Reply{Err: api.ErrHost}
}

func (m *model) doAll(a api.Act) (r api.Reply) {
	switch a.Kind {
	case api.ActTick:
		answer := m.command(api.Cmd{Kind: api.Tick, N: a.N})
		r.Err, r.N = answer.Err, answer.Now
	case api.ActRound:
		if a.N < 1 || a.N > 256 {
			r.Err = api.ErrArg
			return r
		}
		for range a.N {
			_, quiet := m.stepAll()
			r.N += quiet
		}
	case api.ActCalm:
		r = m.calm()
	case api.ActDeliver:
		r = m.deliver(a.At)
	case api.ActLose, api.ActCopy, api.ActSpoil:
		r.Err = m.tamper(a)
	case api.ActFlush:
		if a.N < 1 || a.N > 65536 {
			r.Err = api.ErrArg
			return r
		}
		for r.N < a.N && len(m.flight) > 0 {
			r.N++
			r.Given = append(r.Given, m.deliver(0).Given...)
		}
	case api.ActTear:
		r.Err = api.ErrArg
		if a.N >= 0 && a.N <= 1<<20 {
			r.Err = m.v.Arm(int(a.N))
		}
	case api.ActReopen:
		r.Err = m.open(m.v.Disk())
		r.N = m.rev
	case api.ActLeases:
		var snap api.Snap
		snap, r.Err = m.v.Snapshot()
		r.Leases, r.N = snap.Leases, snap.Rev
	case api.ActFlight:
		r.Flight = m.flight
	case api.ActHolder:
		var l api.Lease
		l, r.Err = m.v.Holder(a.Addr)
		r.Leases = append(r.Leases, l)
	case api.ActDisk:
		r.Disk = m.v.Disk()
	}
	return r
}

// tamper is what may happen to one packet in flight.
func (m *model) tamper(a api.Act) api.Errno {
	if a.Kind == api.ActSpoil && len(a.Bytes) != 1 {
		return api.ErrArg
	}
	if !m.isFlying(a.At) {
		return api.ErrNone
	}
	s := m.flight[a.At]
	switch a.Kind {
	case api.ActLose:
		m.flight = slices.Concat(m.flight[:a.At], m.flight[a.At+1:])
	case api.ActCopy:
		if len(m.flight) == 4096 {
			return api.ErrFull
		}
		m.flight = append(m.flight, s)
	case api.ActSpoil:
		if a.N < 0 || a.N >= int64(len(s.Bytes)) || a.Bytes[0] == 0 {
			return api.ErrArg
		}
		b := slices.Clone(s.Bytes)
		b[a.N] ^= a.Bytes[0]
		m.flight[a.At].Bytes = b
	}
	return api.OK
}

func (m *model) calm() (r api.Reply) {
	if m.v.Down() {
		if r.Err = m.open(m.v.Disk()); r.Err != api.OK {
			return r
		}
	}
	m.v.Arm(-1)
	for _, x := range m.hosts {
		x.fail, x.mute = false, false
		if x.agent == nil {
			m.start(x)
		}
	}
	c := m.c
	most := 4*(c.Routes+c.Neighs+c.Fdbs) + 16*(c.Log+c.Room) + 64*c.Hosts + 128
	for n := 1; n <= most; n++ {
		if made, quiet := m.stepAll(); made == quiet {
			return api.Reply{N: int64(n)}
		}
	}
	return api.Reply{N: -1}
}

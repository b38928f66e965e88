package world

import (
	"bytes"
	"math/rand"
	"slices"
	"testing"

	"weft/addr"
	"weft/api"
	"weft/frag"
	"weft/icmp"
	"weft/ip4"
)

// scripts plays acts by dice before a witness, with something at each pause.
func scripts(t *testing.T, seed, worlds int64, acts int, wide bool, pause func(x *witness, r *rand.Rand)) {
	t.Helper()
	for i := range worlds {
		r := dice(seed + i)
		c := anyConfig(r, wide)
		x, g := witnessed(t, c), grind{r, c}
		for range 3 {
			for range acts {
				x.do(g.single())
			}
			pause(x, r)
		}
	}
}

// W2, W3, W6 and W11 at every point, W4, W5, W9 and W10 at the pauses.
func TestW2W3W6W11AtEveryPoint(t *testing.T) {
	scripts(t, 1000, 40, 120, true, func(x *witness, r *rand.Rand) { x.calms() })
}

func TestW10SmallTablesAtEveryPoint(t *testing.T) {
	scripts(t, 2000, 40, 120, false, func(x *witness, r *rand.Rand) { x.calm() })
}

func TestW5FairOrders(t *testing.T) {
	scripts(t, 3000, 30, 80, true, func(x *witness, r *rand.Rand) {
		x.fair(r)
		x.calms()
	})
}

// traffic is what became of one packet that was sent, and of all that came of it.
type traffic struct {
	first  api.Reply   // of the Send
	flying int         // how many were in flight behind it
	given  []api.Given // in all
	own    int         // how many control messages the hosts made, as far as somebody saw them
}

// sent sends a packet with nothing in flight, and delivers till nothing is.
func (x *witness) sent(h int, b []byte) traffic {
	x.t.Helper()
	if n := len(x.ask(api.ActFlight, 0).Flight); n > 0 {
		x.t.Fatalf("%d are in flight already", n)
	}
	r := x.do(api.Act{Kind: api.ActSend, Host: h, Bytes: b})
	if r.Err != api.OK {
		x.t.Fatalf("Send = %s", brief(r))
	}
	var f traffic
	f.first, f.flying = r, int(r.N)
	for {
		f.given = append(f.given, r.Given...)
		if r.Verdict != api.VSent && r.Verdict != api.VDelivered && len(r.Given)+int(r.N) > 0 {
			f.own++
		}
		r = x.do(api.Act{Kind: api.ActDeliver})
		if r.Err == api.ErrNone {
			return f
		}
	}
}

// lossless empties the underlay.
func (x *witness) lossless() {
	for x.w.Do(api.Act{Kind: api.ActLose}).Err == api.OK {
	}
}

// lease is a host's live lease.
func (x *witness) lease(h int) (api.Lease, bool) {
	leases := x.ask(api.ActLeases, 0).Leases
	i := slices.IndexFunc(leases, func(l api.Lease) bool { return l.Host == h })
	if i < 0 {
		return api.Lease{}, false
	}
	return leases[i], true
}

// podAt is the host that has a pod at an address, in the subnet of its lease.
func (x *witness) podAt(a api.Addr) (int, api.Pod, bool) {
	for h := range x.c.Hosts {
		l, has := x.lease(h)
		for _, p := range x.ask(api.ActPods, h).Pods {
			if has && p.Addr == a && holds(l.Subnet, a) {
				return h, p, true
			}
		}
	}
	return 0, api.Pod{}, false
}

// reach holds W1, W7 and W8 of one packet.
func (x *witness) reach(h int, b []byte) {
	x.t.Helper()
	if _, has := x.lease(h); !has {
		return
	}
	p, err := ip4.Parse(b)
	f := x.sent(h, b)
	x.noStorm(p, f)
	if err != api.OK {
		if len(f.given)+f.flying > 0 {
			x.t.Fatalf("W1: of bytes that are no packet came %s", brief(f))
		}
		return
	}
	size := 20 + len(p.Head.Opts) + len(p.Body)
	sound := addr.Class(p.Head.Src) == 0 && addr.Class(p.Head.Dst) == 0
	to, pod, bound := x.podAt(p.Head.Dst)
	switch fits := size <= x.c.MTU-50; {
	case sound && bound && to == h && p.Head.TTL >= 2:
		x.gets(p, 1, to, pod, f, 0)
	case sound && bound && to != h && p.Head.TTL >= 3 && fits:
		x.gets(p, 2, to, pod, f, 1)
	case sound && bound && to != h && p.Head.TTL >= 3 && p.Head.Off == 0 && !p.Head.MF:
		x.pieces(h, p, to, pod, f)
	case fits:
		x.onlyControl(p, f)
	}
}

// gets: that pod gets the packet, once, its TTL so much less, and nobody gets anything else.
func (x *witness) gets(p api.Packet, less byte, h int, pod api.Pod, f traffic, flying int) {
	x.t.Helper()
	p.Head.TTL -= less
	want := api.Given{Host: h, To: pod.Addr, Name: pod.Name, Bytes: wire(p)}
	if !same(api.Reply{Given: f.given}, api.Reply{Given: []api.Given{want}}) || f.flying != flying {
		x.t.Fatalf("W1: %s, want %s", brief(f), brief(want))
	}
}

// onlyControl: what is given is one control message of a gateway, or its pieces, if anything is.
func (x *witness) onlyControl(p api.Packet, f traffic) {
	x.t.Helper()
	if len(f.given) == 0 {
		return
	}
	q := x.assembled(f.given)
	msg, err := icmp.Parse(q.Body)
	gate := slices.ContainsFunc(x.ask(api.ActLeases, 0).Leases, func(l api.Lease) bool { return l.Subnet.Addr+1 == q.Head.Src })
	if q.Head.Proto != api.ProtoICMP || err != api.OK || !gate || !slices.Contains([]byte{0, 3, 11}, msg.Type) || q.Head.Dst != p.Head.Src {
		x.t.Fatalf("W1: of %s came %s", brief(p), brief(q))
	}
}

// assembled puts together what must be one packet.
func (x *witness) assembled(given []api.Given) api.Packet {
	x.t.Helper()
	asm, _ := frag.New(8, 100)
	for i, g := range given {
		q, err := asm.Add(parsed(x.t, g.Bytes))
		if last := i == len(given)-1; last != (err == api.OK) {
			x.t.Fatalf("W1: %s are not one packet", brief(given))
		} else if last {
			return q
		}
	}
	return api.Packet{}
}

// pieces holds W7 of a packet that is too long for the tunnel.
func (x *witness) pieces(h int, p api.Packet, to int, pod api.Pod, f traffic) {
	x.t.Helper()
	mtu := x.c.MTU - 50
	if p.Head.DF {
		from, source, mine := x.podAt(p.Head.Src)
		gate, _ := x.lease(h)
		told, err := icmp.Fault(p, 3, 4, mtu, gate.Subnet.Addr+1)
		var want []api.Given
		if err == api.OK && mine && from == h {
			want = []api.Given{{Host: h, To: source.Addr, Name: source.Name, Bytes: wire(told)}}
		} else if mine {
			return // it goes to a pod elsewhere
		}
		if !same(api.Reply{Given: f.given}, api.Reply{Given: want}) || f.first.Verdict != api.VTooBig {
			x.t.Fatalf("W7: of one that may not be split came %s, want %s", brief(f), brief(want))
		}
		return
	}
	if len(f.given) != f.flying || f.flying < 2 {
		x.t.Fatalf("W7: %d were in flight, %d were given", f.flying, len(f.given))
	}
	for _, g := range f.given {
		if len(g.Bytes) > mtu || g.Host != to || g.Name != pod.Name || g.To != pod.Addr {
			x.t.Fatalf("W7: a piece of %d bytes: %s", len(g.Bytes), brief(g))
		}
	}
	p.Head.TTL -= 2
	x.anyOrder(p, f.given)
}

// anyOrder: in any order, and some of them twice, pieces reassemble to the packet.
func (x *witness) anyOrder(p api.Packet, pieces []api.Given) {
	x.t.Helper()
	r := dice(int64(len(pieces)))
	for range 4 {
		var order []int
		for i := range pieces {
			order = append(order, i)
			if r.Intn(3) == 0 {
				order = append(order, i)
			}
		}
		r.Shuffle(len(order), func(i, j int) { order[i], order[j] = order[j], order[i] })
		asm, _ := frag.New(8, 100)
		whole := 0
		for _, i := range order {
			q, err := asm.Add(parsed(x.t, pieces[i].Bytes))
			if err == api.OK {
				whole++
				if !bytes.Equal(wire(q), wire(p)) {
					x.t.Fatalf("W7: pieces came to %s, want %s", brief(q), brief(p))
				}
			} else if err != api.ErrMore {
				x.t.Fatalf("W7: a piece is refused: %d", err)
			}
		}
		if whole == 0 {
			x.t.Fatalf("W7: %d pieces do not come to a packet", len(pieces))
		}
	}
}

// noStorm holds W8.
func (x *witness) noStorm(p api.Packet, f traffic) {
	x.t.Helper()
	quiet := p.Head.Off > 0 || p.Head.Proto == api.ProtoICMP && len(p.Body) > 0 && slices.Contains([]byte{3, 4, 5, 11, 12}, p.Body[0])
	if f.own > 2 || quiet && f.own > 0 {
		x.t.Fatalf("W8: the hosts made %d control messages for %s", f.own, brief(p))
	}
	echo := p.Head.Proto == api.ProtoICMP && len(p.Body) > 0 && p.Body[0] == 8
	if f.own == 2 && !echo {
		x.t.Fatalf("W8: the hosts made two control messages for %s", brief(p))
	}
}

// Packets of every kind, behind Calm, of scripts by dice.
func TestW1W7W8Traffic(t *testing.T) {
	scripts(t, 4000, 30, 60, true, func(x *witness, r *rand.Rand) {
		x.calm()
		x.lossless()
		g := grind{r, x.c}
		for h := range x.c.Hosts {
			for _, name := range []string{"a", "b", "cli"} {
				x.do(api.Act{Kind: api.ActPod, Host: h, Name: name})
			}
		}
		for range 120 {
			x.reach(r.Intn(x.c.Hosts), g.bytes())
		}
	})
}

// Every pair of pods, every TTL that matters, every length that matters.
func TestW1EveryPair(t *testing.T) {
	x := witnessed(t, config(withMTU(300)))
	x.calm()
	for h, name := range []string{"cli", "web", "log"} {
		x.do(api.Act{Kind: api.ActPod, Host: h, Name: name})
		x.do(api.Act{Kind: api.ActPod, Host: h, Name: name + "2"})
	}
	all := []api.Addr{cli, web, far, at(1, 3), at(2, 3), at(3, 3), at(1, 1), at(2, 1), at(1, 0), at(2, 255), at(1, 9), at(3, 9), at(9, 9), quad(9, 9, 9, 9)}
	for h := range 3 {
		for _, src := range all {
			for _, dst := range all {
				for _, ttl := range []byte{0, 1, 2, 3, 64, 255} {
					x.reach(h, wire(udp(src, dst, ttl)))
					x.reach(h, wire(ping(src, dst, ttl, 5)))
				}
			}
		}
		for _, dst := range []api.Addr{cli, web, far} {
			for _, size := range []int{20, 28, 249, 250, 251, 252, 500, 1000} {
				x.reach(h, wire(sized(udp(at(h+1, 2), dst, 9), size)))
				x.reach(h, wire(withDF(sized(udp(at(h+1, 2), dst, 9), size))))
				x.reach(h, append(wire(sized(udp(at(h+1, 2), dst, 9), size)), run(7)...))
			}
		}
	}
}

// W1 by hand: what the pod gets, to the byte.
func TestW1ByHand(t *testing.T) {
	b := cluster(t)
	p := udp(cli, web, 3)
	p.Head.Opts = []byte{1, 1, 1, 0}
	b.is(b.send(0, append(wire(p), 9, 9)), api.VSent, 0, 1)
	b.is(b.deliver(0), api.VDelivered, 0, 0, givenTo(1, web, "web", p, 1))
	b.is(b.send(1, wire(udp(cli, web, 2))), api.VDelivered, 0, 0, givenTo(1, web, "web", udp(cli, web, 2), 1))
}

// W3: leases live up to their tick, and not beyond it, whatever happens in between that does not renew them.
func TestW3Ends(t *testing.T) {
	for _, trouble := range []func(b both){func(b both) {}, func(b both) { b.reopen() }, func(b both) { b.crash(0); b.crash(1); b.crash(2) }, func(b both) {
		b.tear(0)
		b.no(api.ErrDown, api.Act{Kind: api.ActTick, N: 1})
		b.reopen()
	}, func(b both) { b.reboot(1) }} {
		b := begun(t, config())
		b.calm()
		b.tick(98)
		trouble(b)
		b.tick(1)
		if l := b.leases().Leases; len(l) != 3 {
			t.Errorf("W3: a tick ahead of their end: %+v", l)
		}
		b.tick(1)
		if l := b.leases().Leases; len(l) != 0 {
			t.Errorf("W3: at their end: %+v", l)
		}
	}
}

// W4: whatever lay in a host's tables, behind a crash and Calm they are what the leases ask for.
func TestW4Crashes(t *testing.T) {
	x := witnessed(t, config(withHosts(4)))
	for steps := range int64(40) {
		x.do(api.Act{Kind: api.ActRevoke, Host: int(steps) % 4})
		for h := range 4 {
			for range steps % 13 {
				x.do(api.Act{Kind: api.ActStep, Host: h, N: 1})
			}
			x.do(api.Act{Kind: api.ActCrash, Host: h})
		}
		if steps%3 == 0 {
			x.do(api.Act{Kind: api.ActTick, N: 100})
		}
		x.calms()
		if n := len(x.ask(api.ActLeases, 0).Leases); n != 4 {
			t.Errorf("W9: %d leases", n)
		}
	}
}

// W9: the first pod of each host has the address behind the gateway's; and where there are too few subnets, some hosts have none.
func TestW9Served(t *testing.T) {
	for _, x := range []struct{ hosts, subnets int }{{3, 3}, {5, 3}, {3, 200}, {6, 1}} {
		b := begun(t, config(withHosts(x.hosts), withMax(x.subnets)))
		b.calm()
		l := b.leases().Leases
		if len(l) != min(x.hosts, x.subnets) {
			t.Errorf("W9: %d hosts, %d subnets: %+v", x.hosts, x.subnets, l)
		}
		for _, l := range l {
			if a := b.pod(l.Host, "first"); a != l.Subnet.Addr+2 {
				t.Errorf("W9: the first pod of host %d has %08x", l.Host, a)
			}
		}
	}
	reserved := func(c *api.Config) {
		c.Reserved = []api.Reserve{{Host: 1, Subnet: sub(2)}, {Host: 3, Subnet: sub(100)}}
	}
	b := begun(t, config(withHosts(5), withMax(3), reserved))
	b.calm()
	var got []int
	for _, l := range b.leases().Leases {
		got = append(got, l.Host, int(l.Subnet.Addr>>8&255))
	}
	if !slices.Equal(got, []int{0, 1, 1, 2, 2, 3, 3, 100}) {
		t.Errorf("W9: hosts and their subnets are %v", got)
	}
}

// W10 by hand: small tables of each kind.
func TestW10ByHand(t *testing.T) {
	for _, sizes := range [][3]int{{2, 9, 9}, {9, 2, 9}, {9, 9, 2}, {1, 1, 1}, {3, 2, 1}, {2, 2, 2}} {
		x := witnessed(t, config(withHosts(5), withTables(sizes[0], sizes[1], sizes[2])))
		x.calm()
		ways := min(sizes[0], sizes[1]+1, sizes[2]+1)
		for h := range 5 {
			tables, v := x.ask(api.ActTables, h).Tables, x.ask(api.ActView, h).View
			if len(tables.Routes) != ways || !v.Degraded || len(v.Skipped) != 5-ways {
				t.Errorf("W10: sizes %v, host %d: %s, skipped %v", sizes, h, brief(tables), v.Skipped)
			}
		}
	}
}

// W11 by hand, by a watch and by a snapshot.
func TestW11ByHand(t *testing.T) {
	b := begun(t, config())
	b.calm()
	b.revoke(1)
	b.asks(1, api.ReqWatch)
	if l := locals(b.tables(1)); len(l) != 1 {
		t.Errorf("W11: %+v", l)
	}
	b.asks(1, api.ReqKernel)
	if l := locals(b.tables(1)); len(l) != 0 {
		t.Errorf("W11: %+v", l)
	}
	b = begun(t, config())
	b.calm()
	b.crash(1)
	b.revoke(1)
	b.start(1)
	b.asks(1, api.ReqDump, api.ReqSnapshot, api.ReqKernel)
	if l := locals(b.tables(1)); len(l) != 0 {
		t.Errorf("W11: %+v", l)
	}
}

// W8 by hand: an echo request whose reply cannot be delivered: a reply and a fault about it, and no more.
func TestW8TwoMessages(t *testing.T) {
	x := witnessed(t, config())
	x.calm()
	// From an address of host 0 that no pod has: the reply comes back, and host 0 tells a fault about it, which goes to a gateway and ends there.
	f := x.sent(0, wire(ping(at(1, 9), at(2, 1), 64, 3)))
	if f.own != 2 || len(f.given) != 0 {
		t.Errorf("W8: %s", brief(f))
	}
	x.noStorm(ping(at(1, 9), at(2, 1), 64, 3), f)
}

// Many hosts: one configuration with as many as there may be.
func TestW4ManyHosts(t *testing.T) {
	x := witnessed(t, config(withHosts(24)))
	x.w.Do(api.Act{Kind: api.ActCalm})
	x.settled()
	x.w.Do(api.Act{Kind: api.ActTick, N: 100})
	x.w.Do(api.Act{Kind: api.ActReboot, Host: 7})
	x.w.Do(api.Act{Kind: api.ActCalm})
	x.settled()
}

package path

import (
	"testing"

	"weft/api"
	"weft/icmp"
)

// Each fault: its type, code and argument, from the host's gateway, about the packet as it came.
func TestP17_8Faults(t *testing.T) {
	b := host(t, 1, 576)
	opts := func(p api.Packet) api.Packet { return withOpts(p, 7, 3, 4, 0x83, 4, 1, 2, 0) }
	for _, c := range []struct {
		p         api.Packet
		verdict   int
		typ, code byte
		arg       int
	}{
		{udp(cli, at(9, 9), 77), api.VNoRoute, 3, 0, 0},
		{udp(cli, at(1, 77), 77), api.VNoPod, 3, 1, 0},
		{udp(cli, cli, 1), api.VTimeOut, 11, 0, 0},
		{udp(cli, web, 0), api.VTimeOut, 11, 0, 0},
		{udp(cli, at(3, 3), 77), api.VNoNeigh, 3, 1, 0},
		{withDF(sized(udp(cli, web, 77), 1000)), api.VTooBig, 3, 4, 526},
	} {
		b.does(putVia(at(3, 0), 24, 5), delNeigh(5))
		for _, p := range []api.Packet{c.p, opts(c.p), sized(c.p, max(527, len(c.p.Body)))} {
			b.sends(p).is(c.verdict).tells(p, c.typ, c.code, c.arg)
			b.send(append(raw(p), 1, 2, 3, 4)).is(c.verdict).tells(p, c.typ, c.code, c.arg)
		}
		if c.verdict == api.VNoNeigh {
			b.does(putNeigh(5, mac(9)))
			b.sends(c.p).is(api.VNoFdb).tells(c.p, 3, 1, 0)
		}
	}
	for _, p := range []api.Packet{udp(cli, at(1, 77), 77), opts(udp(cli, at(1, 77), 77))} {
		b.receives(p).is(api.VNoPod).tells(p, 3, 1, 0)
		b.receive(sealedTo(1, append(raw(p), 9, 9))).is(api.VNoPod).tells(p, 3, 1, 0)
		b.receive(sealedTo(1, append(raw(withTTL(p, 1)), 9, 9))).is(api.VTimeOut).tells(withTTL(p, 1), 11, 0, 0)
	}
}

// A fault quotes no more than the packet has: nothing that stood behind it.
func TestP17_8Quote(t *testing.T) {
	b := host(t, 1, 1500)
	for n := range 12 {
		p := sized(udp(cli, at(9, 9), 9), 20+n)
		b.sends(p).is(api.VNoRoute).tells(p, 3, 0, 0)
		b.send(append(raw(p), run(40)...)).is(api.VNoRoute).tells(p, 3, 0, 0)
		q := sized(udp(cli, at(1, 9), 9), 20+n)
		o := b.receive(sealedTo(1, append(raw(q), run(40)...))).is(api.VNoPod)
		o.tells(q, 3, 1, 0)
		if got := len(o.r.Local[0].Bytes); got != 20+8+20+min(8, n) {
			t.Errorf("P17.8: a fault of %d bytes about a body of %d", got, n)
		}
	}
}

// The host's gateway is that of the first local route with a length of at most 30, whatever the packet's own route is.
func TestP17_8Gateway(t *testing.T) {
	p := udp(at(8, 2), at(8, 7), 9)
	b := begun(t, 1500, putLocal(at(8, 0), 24)).binds("pod", at(8, 2))
	from := func(gate api.Addr) {
		t.Helper()
		b.each(p, func(o outcome) { o.is(api.VNoPod).gives("pod", faultOf(p, 3, 1, 0, gate)) })
	}
	from(at(8, 1))
	b.does(putLocal(at(9, 0), 24), putVia(at(1, 0), 24, 5), putLocal(at(0, 0), 31), putLocal(at(0, 2), 32))
	from(at(8, 1))
	b.does(putLocal(at(7, 252), 30))
	from(at(7, 253))
	b.does(putLocal(at(7, 0), 24))
	from(at(7, 1))
	b.does(putLocal(at(0, 0), 16))
	from(at(0, 1))
	b.does(putLocal(quad(10, 4, 0, 0), 14))
	from(quad(10, 4, 0, 1))
	b.does(delRoute(at(0, 0), 16), delRoute(quad(10, 4, 0, 0), 14), delRoute(at(7, 0), 24), delRoute(at(7, 252), 30))
	from(at(8, 1))
	b.does(putVia(at(7, 0), 24, 5))
	from(at(8, 1))
}

// A host without a gateway tells no fault.
func TestP17_8NoGateway(t *testing.T) {
	b := begun(t, 126, putLocal(cli, 31), putLocal(at(1, 4), 32), putVia(at(2, 0), 24, at(2, 0))).binds("cli", cli)
	b.sends(udp(cli, at(9, 9), 9)).only(api.VNoRoute)
	b.sends(udp(cli, web, 1)).only(api.VTimeOut)
	b.sends(udp(cli, web, 9)).only(api.VNoNeigh)
	b.does(putNeigh(at(2, 0), mac(2)))
	b.sends(udp(cli, web, 9)).only(api.VNoFdb)
	b.does(putFdb(mac(2), pub(2)))
	b.sends(withDF(sized(udp(cli, web, 9), 77))).only(api.VTooBig)
	b.each(udp(cli, cli, 1), func(o outcome) { o.only(api.VTimeOut) })
	b.each(udp(cli, at(1, 4), 9), func(o outcome) { o.only(api.VNoPod) })
	b.does(putVia(at(1, 8), 29, 5), putVia(0, 0, 5))
	b.each(udp(cli, at(1, 4), 9), func(o outcome) { o.only(api.VNoPod) })
	b.does(putLocal(at(1, 12), 30))
	b.sends(udp(cli, at(1, 4), 9)).is(api.VNoPod).gives("cli", faultOf(udp(cli, at(1, 4), 9), 3, 1, 0, at(1, 13)))
}

// A gateway of no plain class tells none either, though another route's could.
func TestP17_8BadGateway(t *testing.T) {
	for _, base := range []api.Addr{0, quad(0, 5, 0, 0), quad(127, 0, 0, 0), quad(224, 0, 0, 0), quad(255, 255, 255, 0)} {
		b := begun(t, 1500, putLocal(base, 24), putLocal(at(1, 0), 24)).binds("cli", cli)
		o := b.sends(udp(cli, at(1, 9), 9)).is(api.VNoPod)
		if base < at(1, 0) {
			o.nothing()
		} else { // behind the other one: not the first
			o.tells(udp(cli, at(1, 9), 9), 3, 1, 0)
		}
		b.sends(ping(cli, here, 9)).is(api.VHost).gives("cli", pong(here, cli))
	}
}

// About what icmp.Fault refuses there is none: pieces behind the first, and faults.
func TestP17_8Refused(t *testing.T) {
	b := host(t, 1, 126)
	later := sized(udp(cli, at(9, 9), 9), 20+16)
	later.Head.Off = 8
	b.sends(later).only(api.VNoRoute)
	first := later
	first.Head.Off, first.Head.MF = 0, true
	b.sends(first).is(api.VNoRoute).tells(first, 3, 0, 0)
	empty := udp(cli, at(9, 9), 9)
	empty.Head.Proto, empty.Body = 1, nil
	b.sends(empty).only(api.VNoRoute)
	for typ := range 256 {
		p := message(cli, at(9, 9), 9, api.Control{Type: byte(typ), Body: run(8)})
		o := b.sends(p).is(api.VNoRoute)
		switch typ {
		case 3, 4, 5, 11, 12:
			o.nothing()
		default:
			o.tells(p, 3, 0, 0)
		}
	}
	for _, dst := range []api.Addr{at(1, 9), cli} {
		for _, ttl := range []byte{1, 9} {
			p := message(cli, dst, ttl, api.Control{Type: 3, Code: 1, Body: run(28)})
			b.each(p, func(o outcome) {
				if len(o.r.Local) > 0 && o.r.Verdict != api.VDelivered {
					o.fails("P17.8: a fault about a fault")
				}
			})
		}
	}
	b.sends(withDF(message(cli, web, 9, api.Control{Type: 11, Body: run(80)}))).only(api.VTooBig)
	b.sends(message(cli, web, 1, api.Control{Type: 12})).only(api.VTimeOut)
}

// An own packet is lost, where its Dst has no way, a way that breaks off, or a local one to nobody.
func TestP17_8Lost(t *testing.T) {
	b := host(t, 1, 1500).does(putVia(at(3, 0), 24, 5), putVia(at(4, 0), 24, 6), putNeigh(6, mac(9)))
	b.binds("edge", at(1, 0), here, at(1, 255))
	for _, src := range []api.Addr{at(9, 9), at(3, 3), at(4, 4), at(1, 0), here, at(1, 255), at(1, 9)} {
		b.sends(udp(src, quad(20, 0, 0, 1), 9)).only(api.VNoRoute)
		b.sends(udp(src, at(3, 3), 9)).only(api.VNoNeigh)
		b.sends(udp(src, at(4, 3), 9)).only(api.VNoFdb)
		b.each(udp(src, at(1, 77), 9), func(o outcome) { o.only(api.VNoPod) })
		b.each(udp(src, cli, 1), func(o outcome) { o.only(api.VTimeOut) })
		b.each(ping(src, here, 9), func(o outcome) { o.only(api.VHost) })
		b.sends(withDF(sized(udp(src, web, 9), 1451))).only(api.VTooBig)
	}
}

// Edges of a route that has none are pods like any other.
func TestP17_8LocalWithoutEdges(t *testing.T) {
	b := begun(t, 1500, putLocal(at(1, 0), 24), putLocal(at(8, 0), 31), putLocal(at(8, 2), 32)).binds("pod", at(8, 0), at(8, 1), at(8, 2))
	for d := range 3 {
		p := udp(at(8, d), at(9, 9), 9)
		b.sends(p).is(api.VNoRoute).gives("pod", faultOf(p, 3, 0, 0, here))
		b.each(ping(at(8, d), here, 0), func(o outcome) { o.is(api.VHost).gives("pod", pong(here, at(8, d))) })
	}
}

// A remote way: a fault and an echo reply go out, sealed, their time as they were made.
func TestP17_8Remote(t *testing.T) {
	b := host(t, 1, 126)
	p := udp(web, at(1, 9), 9)
	b.each(p, func(o outcome) { o.is(api.VNoPod).puts(faultOf(p, 3, 1, 0, here)) })
	b.each(withTTL(p, 0), func(o outcome) { o.is(api.VTimeOut).puts(faultOf(withTTL(p, 0), 11, 0, 0, here)) })
	b.each(ping(web, here, 0), func(o outcome) { o.is(api.VHost).puts(pong(here, web)) })
	b.sends(udp(web, at(9, 9), 9)).is(api.VNoRoute).puts(faultOf(udp(web, at(9, 9), 9), 3, 0, 0, here))
	big := withDF(sized(udp(web, at(2, 3), 9), 77))
	b.sends(big).is(api.VTooBig).puts(faultOf(big, 3, 4, 76, here))
	b.sends(udp(web, at(2, 3), 1)).is(api.VTimeOut).puts(faultOf(udp(web, at(2, 3), 1), 11, 0, 0, here))
	// Its source on this host and the packet's way remote: the edges there are the other host's business.
	for _, d := range []int{0, 1, 255} {
		b.each(udp(at(2, d), at(1, 9), 9), func(o outcome) {
			o.is(api.VNoPod).puts(faultOf(udp(at(2, d), at(1, 9), 9), 3, 1, 0, here))
		})
	}
}

// Own packets that are longer than the inner MTU are cut; one of just that length is not.
func TestP17_8RemoteInPieces(t *testing.T) {
	b := host(t, 1, 126)
	for _, n := range []int{47, 48, 49, 104, 105, 500} {
		p := message(web, here, 9, api.Control{Type: 8, Rest: 3, Body: run(n)})
		p.Head.DF = n%2 == 0 // of the request, not of the reply
		q := message(here, web, 64, api.Control{Rest: 3, Body: run(n)})
		q.Head.ID = 0
		var want []api.Packet
		for from := 0; ; from += 56 {
			if last := from+56 >= len(q.Body); last {
				want = append(want, part(q, from, len(q.Body), false))
				break
			}
			want = append(want, part(q, from, from+56, true))
		}
		b.sends(p).is(api.VHost).puts(want...)
		b.receive(sealedTo(1, raw(p))).is(api.VHost).puts(want...)
	}
	// A fault with the longest quote: 20, 8, 60 and 8 bytes.
	long := withOpts(udp(web, at(9, 9), 9), append([]byte{7, 40}, run(38)...)...)
	q := faultOf(long, 3, 0, 0, here)
	b.sends(long).is(api.VNoRoute).puts(part(q, 0, 56, true), part(q, 56, 76, false))
}

// A pod of this host gets an own packet whole, however long.
func TestP17_8LocalIsNotCut(t *testing.T) {
	b := host(t, 1, 126)
	p := message(cli, here, 9, api.Control{Type: 8, Body: run(5000)})
	q := message(here, cli, 64, api.Control{Body: run(5000)})
	q.Head.ID = 0
	b.each(p, func(o outcome) { o.is(api.VHost).gives("cli", q) })
}

// An own packet goes by the longest route of its own Dst: to this host and out in turn.
func TestP17_8OwnWay(t *testing.T) {
	b := host(t, 1, 1500).does(putVia(at(1, 64), 26, at(2, 0))).binds("pod", at(1, 70))
	p := udp(at(1, 70), at(1, 3), 9)
	b.each(p, func(o outcome) { o.is(api.VNoPod).puts(faultOf(p, 3, 1, 0, here)) })
	b.does(putLocal(at(1, 70), 32))
	b.each(p, func(o outcome) { o.is(api.VNoPod).gives("pod", faultOf(p, 3, 1, 0, here)) })
	// The fault about a packet from another host to this one comes from this host's gateway, and goes to a pod of its own if that is what the source says.
	b.receives(udp(cli, at(1, 3), 9)).is(api.VNoPod).tells(udp(cli, at(1, 3), 9), 3, 1, 0)
}

// An own packet brings no fault of its own and is not counted: its time and what becomes of it count for nothing.
func TestP17_8NotCounted(t *testing.T) {
	b := host(t, 1, 126)
	b.sends(ping(cli, here, 9)).is(api.VHost)
	b.sends(ping(web, here, 9)).is(api.VHost)
	b.sends(message(web, here, 9, api.Control{Type: 8, Body: run(500)})).is(api.VHost)
	b.sends(ping(at(9, 9), here, 9)).only(api.VHost)
	b.sends(ping(at(1, 9), here, 9)).only(api.VHost)
	b.sends(udp(at(1, 9), at(9, 9), 9)).only(api.VNoRoute)
	b.receives(ping(web, here, 9)).is(api.VHost)
	for v, n := range b.counts() {
		if want := map[int]int{api.VHost: 6, api.VNoRoute: 1}[v]; n != want {
			t.Errorf("P17.9: verdict %d was counted %d times, want %d", v, n, want)
		}
	}
}

// The gateway's own address as the source of a ping to itself, and of a packet that goes nowhere: lost.
func TestP17_8FromTheGateway(t *testing.T) {
	b := host(t, 1, 1500)
	b.each(ping(here, here, 9), func(o outcome) { o.only(api.VHost) })
	b.sends(udp(here, at(9, 9), 9)).only(api.VNoRoute)
	b.sends(ping(here, cli, 9)).is(api.VDelivered).gives("cli", ping(here, cli, 8))
}

// No fault about a fault: what the datapath tells, sent again, brings none.
func TestP17_8NoStorm(t *testing.T) {
	b := host(t, 1, 1500)
	fault, err := icmp.Fault(udp(cli, at(9, 9), 9), 3, 0, 0, here)
	if err != api.OK {
		t.Fatal(err)
	}
	fault.Head.Src, fault.Head.Dst = cli, at(9, 9)
	b.sends(fault).only(api.VNoRoute)
	fault.Head.Dst = at(1, 9)
	b.each(fault, func(o outcome) { o.only(api.VNoPod) })
	fault.Head.TTL = 1
	b.each(fault, func(o outcome) { o.only(api.VTimeOut) })
	// About an echo reply there is one.
	reply := pong(cli, at(1, 9))
	b.each(reply, func(o outcome) { o.is(api.VNoPod).tells(reply, 3, 1, 0) })
}

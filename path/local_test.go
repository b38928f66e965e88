package path

import (
	"testing"

	"weft/api"
)

// each makes the same packet known to a datapath by Send and by Receive.
func (b both) each(p api.Packet, look func(o outcome)) {
	b.t.Helper()
	look(b.sends(p))
	look(b.receives(p))
}

// Both broadcast addresses of routes of each length up to 30: ahead of the time and of a pod that is bound there.
func TestP17_5Broadcast(t *testing.T) {
	for n := 1; n <= 30; n++ {
		base := quad(160, 0, 0, 0) >> (32 - n) << (32 - n)
		last := base + 1<<(32-n) - 1
		b := begun(t, 1500, putLocal(base, n)).binds("pod", base+2).binds("first", base).binds("last", last)
		for _, dst := range []api.Addr{base, last} {
			for _, ttl := range []byte{0, 1, 2} {
				want := api.VBroadcast
				if !isPlain(dst) {
					want = api.VBadDst
				}
				b.each(udp(base+2, dst, ttl), func(o outcome) { o.only(want) })
				b.each(ping(base+2, dst, ttl), func(o outcome) { o.only(want) })
			}
		}
		inside := udp(base+2, last-1, 9)
		if n == 30 { // the pod's own address
			b.each(inside, func(o outcome) { o.is(api.VDelivered).gives("pod", withTTL(inside, 8)) })
		} else if isPlain(last - 1) {
			b.each(inside, func(o outcome) {
				o.is(api.VNoPod).gives("pod", faultOf(inside, 3, 1, 0, base+1))
			})
		}
	}
}

// A packet at the gateway: an echo request, another control message, none; whatever its time, and whoever is bound there.
func TestP17_5Gateway(t *testing.T) {
	for _, n := range []int{1, 8, 24, 29, 30} {
		base := quad(160, 5, 1, 0) >> (32 - n) << (32 - n)
		b := begun(t, 1500, putLocal(base, n)).binds("pod", base+2).binds("gate", base+1)
		for _, ttl := range []byte{0, 1, 2, 64} {
			b.each(ping(base+2, base+1, ttl), func(o outcome) { o.is(api.VHost).gives("pod", pong(base+1, base+2)) })
			b.each(udp(base+2, base+1, ttl), func(o outcome) { o.only(api.VHost) })
			for _, typ := range []byte{0, 3, 4, 5, 8, 11, 12, 13, 255} {
				c := api.Control{Type: typ, Code: 1, Rest: 5, Body: run(30)}
				b.each(message(base+2, base+1, ttl, c), func(o outcome) { o.only(api.VHost) })
			}
			bad := ping(base+2, base+1, ttl)
			bad.Body[5]++
			b.each(bad, func(o outcome) { o.only(api.VHost) })
			bad.Body = bad.Body[:7]
			b.each(bad, func(o outcome) { o.only(api.VHost) })
			bad.Body = nil
			b.each(bad, func(o outcome) { o.only(api.VHost) })
		}
	}
}

// Pieces of an echo request are not answered.
func TestP17_5GatewayPieces(t *testing.T) {
	b := host(t, 1, 1500)
	p := message(cli, here, 9, api.Control{Type: 8, Body: run(8)})
	p.Head.MF = true
	b.each(p, func(o outcome) { o.only(api.VHost) })
	p.Head.MF, p.Head.Off = false, 8
	b.each(p, func(o outcome) { o.only(api.VHost) })
}

// What an echo keeps, and what it does not.
func TestP17_5Echo(t *testing.T) {
	b := host(t, 1, 1500)
	for _, n := range []int{0, 1, 8, 1431, 65507} {
		p := message(cli, here, 0, api.Control{Type: 8, Rest: 0xdeadbeef, Body: run(n)})
		p.Head.TOS, p.Head.DF = 0x55, true
		q := message(here, cli, 64, api.Control{Rest: 0xdeadbeef, Body: run(n)})
		q.Head.TOS, q.Head.ID = 0x55, 0
		b.sends(p).is(api.VHost).gives("cli", q)
		if n < 65000 { // a longer one fits into no tunnel
			b.receives(p).is(api.VHost).gives("cli", q)
		}
	}
	p := withOpts(ping(cli, here, 3), 7, 7, 4, 1, 2, 3, 4, 0)
	b.sends(p).is(api.VHost).gives("cli", pong(here, cli))
}

// The time ahead of the pod.
func TestP17_5TimeOut(t *testing.T) {
	b := host(t, 1, 1500).binds("pod", at(1, 3))
	for _, ttl := range []byte{0, 1} {
		for _, d := range []int{2, 3, 4, 254} {
			p := udp(cli, at(1, d), ttl)
			b.each(p, func(o outcome) { o.is(api.VTimeOut).tells(p, 11, 0, 0) })
		}
	}
	b.each(udp(cli, at(1, 3), 2), func(o outcome) { o.is(api.VDelivered).gives("pod", udp(cli, at(1, 3), 1)) })
	b.each(udp(cli, at(1, 4), 2), func(o outcome) { o.is(api.VNoPod).tells(udp(cli, at(1, 4), 2), 3, 1, 0) })
}

// Routes of length 31 and 32 have neither broadcast addresses nor a gateway; nor does the host by them.
func TestP17_5ShortRoutes(t *testing.T) {
	b := begun(t, 1500, putLocal(at(1, 2), 31), putLocal(at(1, 4), 32)).binds("a", at(1, 2)).binds("b", at(1, 3)).binds("c", at(1, 4))
	for i, d := range []int{2, 3, 4} {
		p := udp(at(1, 2), at(1, d), 9)
		b.each(p, func(o outcome) { o.is(api.VDelivered).gives("abc"[i:i+1], withTTL(p, 8)) })
		b.each(ping(at(1, 2), at(1, d), 9), func(o outcome) {
			o.is(api.VDelivered).gives("abc"[i:i+1], ping(at(1, 2), at(1, d), 8))
		})
		b.each(withTTL(p, 1), func(o outcome) { o.only(api.VTimeOut) })
	}
	b.unbind(at(1, 3))
	b.each(udp(at(1, 2), at(1, 3), 9), func(o outcome) { o.only(api.VNoPod) })
	b.sends(udp(at(1, 2), at(1, 5), 9)).only(api.VNoRoute)
	b.receives(udp(at(1, 2), at(1, 5), 9)).only(api.VNoRoute)
}

// A route of length 0: all addresses are local, its edges are of no plain class.
func TestP17_5RouteOfAll(t *testing.T) {
	b := begun(t, 1500, putLocal(0, 0)).binds("pod", cli)
	b.each(udp(web, cli, 9), func(o outcome) { o.is(api.VDelivered).gives("pod", udp(web, cli, 8)) })
	b.each(udp(cli, web, 9), func(o outcome) { o.only(api.VNoPod) })
	b.each(udp(cli, web, 1), func(o outcome) { o.only(api.VTimeOut) })
	for _, dst := range []api.Addr{0, 1, 1<<32 - 1} {
		b.each(ping(cli, dst, 9), func(o outcome) { o.only(api.VBadDst) })
	}
}

// The edges are those of the longest route, not of one around it.
func TestP17_5LongestRouteEdges(t *testing.T) {
	b := begun(t, 1500, putLocal(at(1, 0), 24), putLocal(at(1, 0), 31), putLocal(at(1, 252), 30), putLocal(at(1, 254), 31)).
		binds("p", at(1, 0), at(1, 1), at(1, 252), at(1, 253), at(1, 254), at(1, 255))
	for _, d := range []int{0, 1, 254, 255} {
		b.each(udp(web, at(1, d), 9), func(o outcome) { o.is(api.VDelivered).gives("p", udp(web, at(1, d), 8)) })
	}
	b.each(udp(web, at(1, 252), 9), func(o outcome) { o.only(api.VBroadcast) })
	b.each(udp(web, at(1, 253), 9), func(o outcome) { o.only(api.VHost) })
}

// A pod gets the packet as it came, but for the time and the sum; nothing that stood behind it.
func TestP17_5AsItCame(t *testing.T) {
	b := host(t, 1, 1500)
	p := udp(quad(223, 1, 2, 3), cli, 255)
	p.Head.TOS, p.Head.ID, p.Head.Proto, p.Head.DF = 0xab, 0xcdef, 200, true
	p = withOpts(p, 7, 3, 4, 0x83, 4, 1, 2, 0)
	pieces := p
	pieces.Head.DF, pieces.Head.MF, pieces.Head.Off, pieces.Body = false, true, 8*999, run(16)
	for _, q := range []api.Packet{p, pieces, sized(p, 28)} {
		for _, more := range [][]byte{nil, {0}, {7, 7, 7}, make([]byte, 100)} {
			bytes := append(raw(q), more...)
			b.send(bytes).is(api.VDelivered).gives("cli", withTTL(q, 254))
			b.receive(sealedTo(1, bytes)).is(api.VDelivered).gives("cli", withTTL(q, 254))
			b.receive(append(sealedTo(1, bytes), 9, 9)).is(api.VDelivered).gives("cli", withTTL(q, 254))
		}
	}
}

// zeroSum is a packet whose right sum is 0, with 65535 in the sum's place.
func zeroSum(p api.Packet) []byte {
	for id := range 1 << 16 {
		p.Head.ID = uint16(id)
		b := raw(p)
		if get16(b[10:]) == 0 {
			put16(b[10:], 65535)
			return b
		}
	}
	panic("no such packet")
}

// A sum of 65535 in the place of 0 is read, and is not handed on.
func TestP17_5TheOtherZero(t *testing.T) {
	b := host(t, 1, 126)
	for _, p := range []api.Packet{udp(web, cli, 9), udp(cli, at(1, 3), 9), udp(cli, web, 1), udp(cli, web, 9), sized(udp(cli, web, 9), 200), udp(cli, at(9, 9), 9)} {
		bytes := zeroSum(p)
		b.send(bytes)
		b.receive(sealedTo(1, bytes))
		q := parsed(t, bytes)
		if p.Head.TTL == 9 && p.Head.Dst == cli {
			b.send(bytes).is(api.VDelivered).gives("cli", withTTL(q, 8))
		}
		if p.Head.TTL == 1 {
			b.send(bytes).is(api.VTimeOut).tells(q, 11, 0, 0)
		}
	}
}

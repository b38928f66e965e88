package path

import (
	"math"
	"testing"

	"weft/api"
	"weft/tunnel"
)

// sealing is what comes in, taken apart.
type sealing struct {
	outer api.Outer
	frame api.Frame
}

// forHost is a packet on its way to the host of 10.5.1.0/24.
func forHost(p api.Packet) sealing {
	return sealing{
		api.Outer{Src: pub(2), Dst: pub(1), SrcPort: 50000, DstPort: 8472, TTL: 64, VNI: 1},
		api.Frame{Dst: mac(1), Src: mac(2), Type: 0x0800, Body: raw(p)},
	}
}

func (s sealing) bytes() []byte {
	b, err := tunnel.Seal(s.outer, s.frame)
	if err != api.OK {
		panic(err)
	}
	return b
}

// Step by step: all is wrong at first, and is set right from the outside to the inside.
func TestP17_6StepByStep(t *testing.T) {
	b := host(t, 1, 1500).binds("far", web)
	s := forHost(udp(0, quad(224, 0, 0, 1), 0))
	s.outer.Dst, s.outer.DstPort, s.outer.VNI = pub(2), 8473, 2
	s.frame.Dst, s.frame.Type = mac(2), 0x0806
	s.frame.Body[8]++
	whole := s.bytes()
	whole[28] = 0 // the flag of a valid VNI
	b.receive(whole).isWith(api.VBadOuter, api.ErrFlags).nothing()
	b.receive(s.bytes()).only(api.VNotMine)
	s.outer.Dst = pub(1)
	b.receive(s.bytes()).only(api.VBadPort)
	s.outer.DstPort = 8472
	b.receive(s.bytes()).only(api.VBadVNI)
	s.outer.VNI = 1
	b.receive(s.bytes()).only(api.VBadMAC)
	s.frame.Dst = mac(1)
	b.receive(s.bytes()).only(api.VBadType)
	s.frame.Type = 0x0800
	b.receive(s.bytes()).isWith(api.VBadInner, api.ErrSum).nothing()
	s.frame.Body[8]--
	b.receive(s.bytes()).only(api.VBadSrc)
	for _, step := range []struct {
		p       api.Packet
		verdict int
	}{
		{udp(cli, quad(224, 0, 0, 1), 0), api.VBadDst},
		{udp(cli, at(9, 9), 0), api.VNoRoute},
		{udp(cli, web, 0), api.VLoop},
		{udp(cli, at(1, 255), 0), api.VBroadcast},
		{udp(cli, here, 0), api.VHost},
	} {
		b.receive(forHost(step.p).bytes()).only(step.verdict)
	}
	p := udp(cli, at(1, 3), 1)
	b.receive(forHost(p).bytes()).is(api.VTimeOut).tells(p, 11, 0, 0)
	p.Head.TTL = 2
	b.receive(forHost(p).bytes()).is(api.VNoPod).tells(p, 3, 1, 0)
	b.binds("three", at(1, 3))
	b.receive(forHost(p).bytes()).is(api.VDelivered).gives("three", withTTL(p, 1))
}

// outerOf is an outer packet with this body.
func outerOf(body []byte) api.Packet {
	return api.Packet{Head: api.Head{TTL: 9, Proto: 17, Src: pub(2), Dst: pub(2)}, Body: body}
}

// Step 1: what tunnel.Open refuses, with each of its errors, ahead of an outer packet that is not for this host.
func TestP17_6BadOuter(t *testing.T) {
	b := host(t, 1, 1500)
	for err, list := range unreadable() {
		for _, bytes := range list {
			b.receive(bytes).isWith(api.VBadOuter, err).nothing()
		}
	}
	s := forHost(udp(web, cli, 9))
	s.outer.Dst = pub(2)
	good := s.bytes()[20:]
	with := func(at int, v byte) api.Packet {
		body := append([]byte{}, good...)
		body[at] = v
		return outerOf(body)
	}
	piece, rest, proto := outerOf(good[:len(good)/8*8]), outerOf(good), outerOf(good)
	piece.Head.MF, rest.Head.Off, proto.Head.Proto = true, 8, 6
	for _, c := range []struct {
		err api.Errno
		p   api.Packet
	}{
		{api.ErrPiece, piece},
		{api.ErrPiece, rest},
		{api.ErrProto, proto},
		{api.ErrUDP, outerOf(nil)},
		{api.ErrUDP, outerOf(good[:7])},
		{api.ErrUDP, with(5, 7)},
		{api.ErrUDP, outerOf(good[:len(good)-1])},
		{api.ErrUSum, with(7, 1)},
		{api.ErrVX, with(5, 8)},
		{api.ErrVX, with(5, 15)},
		{api.ErrFlags, with(8, 0)},
		{api.ErrFlags, with(8, 0xf7)},
		{api.ErrFrame, with(5, 16)},
		{api.ErrFrame, with(5, 29)},
		{api.ErrFrame, with(28, 5)},
		{api.ErrVlan, outerOf(append(append(append([]byte{}, good[:28]...), 0x81, 0), good[30:]...))},
		{api.ErrVlan, outerOf(append(append(append([]byte{}, good[:28]...), 0x88, 0xa8), good[30:]...))},
	} {
		b.receive(raw(c.p)).isWith(api.VBadOuter, c.err).nothing()
	}
	b.receive(raw(outerOf(good))).only(api.VNotMine)
	b.sends(outerOf(good)).only(api.VNoRoute)
}

// Steps 2 to 6: what is not the Env's, by one bit, in each place of it.
func TestP17_6NotTheEnvs(t *testing.T) {
	b := host(t, 1, 1500)
	p := udp(web, cli, 9)
	for i := range 32 {
		s := forHost(p)
		s.outer.Dst ^= 1 << i
		b.receive(s.bytes()).only(api.VNotMine)
	}
	for i := range 16 {
		s := forHost(p)
		s.outer.DstPort ^= 1 << i
		b.receive(s.bytes()).only(api.VBadPort)
	}
	for i := range 24 {
		s := forHost(p)
		s.outer.VNI ^= 1 << i
		b.receive(s.bytes()).only(api.VBadVNI)
	}
	for i := range 48 {
		s := forHost(p)
		s.frame.Dst[i/8] ^= 1 << (i % 8)
		b.receive(s.bytes()).only(api.VBadMAC)
	}
	for _, typ := range []uint16{0x0600, 0x0801, 0x0806, 0x08ff, 0x1800, 0x86dd, 0xffff} {
		s := forHost(p)
		s.frame.Type = typ
		b.receive(s.bytes()).only(api.VBadType)
	}
	b.receive(forHost(p).bytes()).is(api.VDelivered).gives("cli", udp(web, cli, 8))
}

// Numbers at their limits: they are held against those that came in whole.
func TestP17_6GreatNumbers(t *testing.T) {
	for _, e := range []api.Env{{Pub: 0, VNI: 0, Port: 1, MTU: 1500}, {Pub: math.MaxUint32, MAC: api.MAC{255, 255, 255, 255, 255, 255}, VNI: 1<<24 - 1, Port: 65535, MTU: 1500}} {
		b := begun(t, 1500, putLocal(at(1, 0), 24)).binds("cli", cli)
		b = over(t, e, b.k).binds("cli", cli)
		s := forHost(udp(web, cli, 9))
		s.outer.Dst, s.outer.DstPort, s.outer.VNI, s.frame.Dst = e.Pub, uint16(e.Port), e.VNI, e.MAC
		b.receive(s.bytes()).is(api.VDelivered).gives("cli", udp(web, cli, 8))
	}
}

// The outer Src, source port, TTL, TOS, ID, DF and options, a datagram's sum, and the frame's Src are not looked at.
func TestP17_6NotLookedAt(t *testing.T) {
	b := host(t, 1, 1500)
	p := udp(web, cli, 9)
	check := func(bytes []byte) {
		t.Helper()
		b.receive(bytes).is(api.VDelivered).gives("cli", withTTL(p, 8))
	}
	for _, src := range append(oddClasses, pub(1), cli) {
		s := forHost(p)
		s.outer.Src = src
		check(s.bytes())
	}
	for _, port := range []uint16{0, 1, 8472, 65535} {
		s := forHost(p)
		s.outer.SrcPort, s.outer.TTL, s.frame.Src = port, byte(port), api.MAC{1: byte(port)}
		check(s.bytes())
	}
	s := forHost(p)
	s.frame.Src = s.frame.Dst
	check(s.bytes())
	outer := parsed(t, s.bytes())
	outer.Head.TOS, outer.Head.ID, outer.Head.DF, outer.Head.Opts = 77, 88, false, []byte{1, 1, 0x83, 5, 4, 9, 9, 0}
	check(raw(outer))
	d, _ := tunnel.ParseUDP(pub(2), pub(1), outer.Body)
	outer.Body, _ = tunnel.BuildUDP(pub(2), pub(1), d, true)
	check(raw(outer))
	outer.Body[8], outer.Body[9], outer.Body[15] = 0xff, 3, 4 // other flags, reserved bytes
	outer.Body[6], outer.Body[7] = 0, 0
	check(raw(outer))
}

// Step 7: what ip4.Parse refuses of the packet inside, with each error.
func TestP17_6BadInner(t *testing.T) {
	b := host(t, 1, 1500)
	for err, list := range unreadable() {
		for _, bytes := range list {
			s := forHost(udp(web, cli, 9))
			s.frame.Body = bytes
			b.receive(s.bytes()).isWith(api.VBadInner, err).nothing()
		}
	}
}

// Step 8: the classes, Src ahead of Dst, both ahead of the way.
func TestP17_6Classes(t *testing.T) {
	b := host(t, 1, 1500).binds("odd", oddClasses...).binds("end", plainEnds...)
	for range 2 {
		for _, a := range oddClasses {
			b.receives(udp(a, cli, 9)).only(api.VBadSrc)
			b.receives(udp(a, web, 9)).only(api.VBadSrc)
			b.receives(ping(cli, a, 9)).only(api.VBadDst)
			for _, other := range oddClasses {
				b.receives(udp(a, other, 9)).only(api.VBadSrc)
			}
		}
		b.does(putLocal(0, 0))
	}
	for _, a := range plainEnds {
		b.receives(udp(a, cli, 9)).is(api.VDelivered).gives("cli", udp(a, cli, 8))
		b.receives(udp(cli, a, 9)).is(api.VDelivered).gives("end", udp(cli, a, 8))
	}
}

// Step 9: no way and a remote way bring no fault, whatever the time and the length, and whether the way goes on or not.
func TestP17_6NoWayOrRemote(t *testing.T) {
	b := host(t, 1, 126).binds("far", web)
	list := []api.Packet{udp(cli, web, 9), udp(cli, web, 0), udp(cli, web, 1), withDF(sized(udp(cli, web, 9), 77)), sized(udp(cli, web, 9), 200), ping(cli, beyond, 9), udp(cli, at(2, 255), 9)}
	for _, op := range []api.Op{putFdb(mac(2), pub(2)), delFdb(mac(2)), delNeigh(at(2, 0))} {
		b.does(op)
		for _, p := range list {
			b.receives(p).only(api.VLoop)
		}
	}
	b.does(delRoute(at(2, 0), 24))
	for _, p := range list {
		b.receives(p).only(api.VNoRoute)
	}
	b.does(putVia(0, 0, at(2, 0)))
	for _, p := range list {
		b.receives(p).only(api.VLoop)
	}
}

// A frame from this host itself, and one longer than the underlay's MTU, are taken like any other.
func TestP17_6AnyFrame(t *testing.T) {
	b := host(t, 1, 126)
	p := sized(udp(cli, cli, 9), 9000)
	b.receive(wrapped(b.m.env, b.m.env.MAC, b.m.env.Pub, raw(p))).is(api.VDelivered).gives("cli", withTTL(p, 8))
	p = sized(p, 65485)
	b.receives(p).is(api.VDelivered).gives("cli", withTTL(p, 8))
}

// What Send puts out is taken in at the other host, and the other way round: neither takes its own.
func TestP17_6OwnPackets(t *testing.T) {
	b, other := host(t, 1, 1500), host(t, 2, 1500)
	out := b.sends(udp(cli, web, 9)).is(api.VSent).r.Out[0].Bytes
	b.receive(out).only(api.VNotMine)
	other.receive(out).is(api.VDelivered).gives("web", udp(cli, web, 7))
	// An outer packet is no packet of a pod: nothing leads to the underlay.
	b.send(out).only(api.VNoRoute)
	b.receive(raw(udp(web, cli, 9))).isWith(api.VBadOuter, api.ErrUDP).nothing()
}

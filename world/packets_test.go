package world

import (
	"bytes"
	"slices"
	"testing"

	"weft/api"
	"weft/frag"
	"weft/icmp"
	"weft/vault"
)

// is: a reply of a datapath, as it must be.
func (b both) is(r api.Reply, verdict int, why api.Errno, n int64, given ...api.Given) {
	b.t.Helper()
	if want := (api.Reply{Verdict: verdict, Why: why, N: n, Given: given}); !same(r, want) {
		b.t.Errorf("P19.10: %s, want %s", brief(r), brief(want))
	}
}

func givenTo(h int, to api.Addr, name string, p api.Packet, ttl byte) api.Given {
	p.Head.TTL = ttl
	return api.Given{Host: h, To: to, Name: name, Bytes: wire(p)}
}

func TestP19_10Send(t *testing.T) {
	b := cluster(t)
	b.pod(1, "two")
	p := udp(web, at(2, 3), 9)
	b.is(b.send(1, wire(p)), api.VDelivered, 0, 0, givenTo(1, at(2, 3), "two", p, 8))
	b.is(b.send(1, append(wire(p), 1, 2, 3)), api.VDelivered, 0, 0, givenTo(1, at(2, 3), "two", p, 8))
	b.is(b.send(0, wire(udp(cli, web, 9))), api.VSent, 0, 1)
	b.is(b.send(2, nil), api.VBadPacket, api.ErrShort, 0)
	b.is(b.send(2, []byte{0x65}), api.VBadPacket, api.ErrShort, 0)
	bad := wire(udp(cli, web, 9))
	bad[8]++
	b.is(b.send(0, bad), api.VBadPacket, api.ErrSum, 0)
	b.is(b.send(0, wire(udp(0, web, 9))), api.VBadSrc, 0, 0)
	b.is(b.send(0, wire(udp(cli, quad(224, 0, 0, 1), 9))), api.VBadDst, 0, 0)
	b.is(b.send(0, wire(udp(cli, at(1, 255), 9))), api.VBroadcast, 0, 0)
	none := udp(far, at(3, 9), 9)
	told, _ := icmp.Fault(none, 3, 1, 0, at(3, 1))
	b.is(b.send(2, wire(none)), api.VNoPod, 0, 0, givenTo(2, far, "log", told, 64))
	late := udp(web, far, 1)
	told, _ = icmp.Fault(late, 11, 0, 0, at(2, 1))
	b.is(b.send(1, wire(late)), api.VTimeOut, 0, 0, givenTo(1, web, "web", told, 64))
	// A fault about a packet whose source is a pod elsewhere goes into flight.
	b.is(b.send(0, wire(udp(far, at(1, 9), 9))), api.VNoPod, 0, 1)
	// A source that is no pod's: the fault is lost.
	b.is(b.send(0, wire(udp(quad(8, 8, 8, 8), at(1, 9), 9))), api.VNoPod, 0, 0)
	f := b.flight()
	if len(f) != 2 || f[0].To != pub(1) || f[1].To != pub(2) {
		t.Errorf("P19.10: in flight is %s", brief(f))
	}
	for h, want := range []map[int]int{
		{api.VSent: 1, api.VBadPacket: 1, api.VBadSrc: 1, api.VBadDst: 1, api.VBroadcast: 1, api.VNoPod: 2},
		{api.VDelivered: 2, api.VTimeOut: 1},
		{api.VBadPacket: 2, api.VNoPod: 1},
	} {
		for v, n := range b.counts(h) {
			if n != want[v] {
				t.Errorf("P19.7: host %d has counted %d of verdict %d, want %d", h, n, v, want[v])
			}
		}
	}
	b.check()
}

func TestP19_10Raw(t *testing.T) {
	b := cluster(t)
	for h, x := range []struct {
		to   api.Addr
		name string
	}{{cli, "cli"}, {web, "web"}, {far, "log"}} {
		p := udp(quad(9, 9, 9, 9), x.to, 9)
		b.is(b.raw(h, sealed(h, wire(p))), api.VDelivered, 0, 0, givenTo(h, x.to, x.name, p, 8))
		for other := range 3 {
			if other != h {
				b.is(b.raw(other, sealed(h, wire(p))), api.VNotMine, 0, 0)
			}
		}
	}
	p := wire(udp(web, cli, 9))
	frame := api.Frame{Dst: mac(0, 0), Type: api.TypeIPv4, Body: p}
	b.is(b.raw(0, nil), api.VBadOuter, api.ErrShort, 0)
	b.is(b.raw(0, p), api.VBadOuter, api.ErrUDP, 0)
	b.is(b.raw(0, wire(ping(web, cli, 9, 3))), api.VBadOuter, api.ErrProto, 0)
	b.is(b.raw(0, sealedFrame(0, frame, 8473, 1)), api.VBadPort, 0, 0)
	b.is(b.raw(0, sealedFrame(0, frame, 8472, 2)), api.VBadVNI, 0, 0)
	frame.Dst[1]++
	b.is(b.raw(0, sealedFrame(0, frame, 8472, 1)), api.VBadMAC, 0, 0)
	frame.Dst, frame.Type = mac(0, 0), 0x0806
	b.is(b.raw(0, sealedFrame(0, frame, 8472, 1)), api.VBadType, 0, 0)
	b.is(b.raw(0, sealed(0, run(30))), api.VBadInner, api.ErrVersion, 0)
	b.is(b.raw(0, sealed(0, nil)), api.VBadInner, api.ErrShort, 0)
	b.is(b.raw(0, sealed(0, wire(udp(0, cli, 9)))), api.VBadSrc, 0, 0)
	b.is(b.raw(0, sealed(0, wire(udp(web, quad(127, 0, 0, 1), 9)))), api.VBadDst, 0, 0)
	b.is(b.raw(0, sealed(0, wire(udp(web, quad(9, 9, 9, 9), 9)))), api.VNoRoute, 0, 0)
	b.is(b.raw(0, sealed(0, wire(udp(cli, web, 9)))), api.VLoop, 0, 0)
	b.is(b.raw(0, sealed(0, wire(udp(web, at(1, 0), 9)))), api.VBroadcast, 0, 0)
	b.is(b.raw(0, sealed(0, wire(ping(web, at(1, 1), 9, 3)))), api.VHost, 0, 1)
	b.is(b.raw(0, sealed(0, wire(udp(web, at(1, 1), 9)))), api.VHost, 0, 0)
	b.is(b.raw(0, sealed(0, wire(udp(web, cli, 1)))), api.VTimeOut, 0, 1)
	b.is(b.raw(0, sealed(0, wire(udp(web, at(1, 9), 9)))), api.VNoPod, 0, 1)
	// Of a pod of its own, come back by a tunnel: the fault is given here.
	mine := udp(cli, at(1, 9), 9)
	told, _ := icmp.Fault(mine, 3, 1, 0, at(1, 1))
	b.is(b.raw(0, sealed(0, wire(mine))), api.VNoPod, 0, 0, givenTo(0, cli, "cli", told, 64))
	if f := b.flight(); len(f) != 3 || f[0].To != pub(1) || f[2].To != pub(1) {
		t.Errorf("P19.10: in flight is %s", brief(f))
	}
	b.check()
}

func TestP19_7Deliver(t *testing.T) {
	b := cluster(t)
	b.no(api.ErrNone, api.Act{Kind: api.ActDeliver})
	first, second, third := udp(cli, web, 9), udp(far, cli, 9), udp(web, far, 9)
	fly := func() {
		b.send(0, wire(first))
		b.send(2, wire(second))
		b.send(1, wire(third))
	}
	fly()
	for _, i := range append(farInts, 3, 4, api.MaxFlight) {
		b.no(api.ErrNone, api.Act{Kind: api.ActDeliver, At: i})
		b.no(api.ErrNone, api.Act{Kind: api.ActLose, At: i})
		b.no(api.ErrNone, api.Act{Kind: api.ActCopy, At: i})
		b.no(api.ErrNone, api.Act{Kind: api.ActSpoil, At: i, Bytes: []byte{1}})
	}
	b.check()
	b.is(b.deliver(1), api.VDelivered, 0, 0, givenTo(0, cli, "cli", second, 7))
	b.is(b.deliver(1), api.VDelivered, 0, 0, givenTo(2, far, "log", third, 7))
	b.is(b.deliver(0), api.VDelivered, 0, 0, givenTo(1, web, "web", first, 7))
	b.no(api.ErrNone, api.Act{Kind: api.ActDeliver})
	fly()
	b.ok(api.Act{Kind: api.ActLose, At: 1})
	b.ok(api.Act{Kind: api.ActCopy, At: 0})
	b.is(b.deliver(2), api.VDelivered, 0, 0, givenTo(1, web, "web", first, 7))
	b.is(b.deliver(0), api.VDelivered, 0, 0, givenTo(1, web, "web", first, 7))
	b.is(b.deliver(0), api.VDelivered, 0, 0, givenTo(2, far, "log", third, 7))
	if f := b.flight(); len(f) != 0 {
		t.Errorf("P19.7: in flight is %s", brief(f))
	}
	b.check()
}

func TestP19_7Spoil(t *testing.T) {
	b := cluster(t)
	b.send(0, wire(udp(cli, web, 9)))
	was := b.flight()
	spoil := func(at int, n int64, bs ...byte) api.Act {
		return api.Act{Kind: api.ActSpoil, At: at, N: n, Bytes: bs}
	}
	b.no(api.ErrArg, spoil(0, 0))
	b.no(api.ErrArg, spoil(0, 0, 1, 2))
	b.no(api.ErrArg, spoil(0, 0, run(300)...))
	b.no(api.ErrArg, spoil(0, 0, 0))
	b.no(api.ErrArg, spoil(0, -1, 1))
	b.no(api.ErrArg, spoil(0, 80, 1))
	b.no(api.ErrArg, spoil(0, 1<<32, 1))
	b.no(api.ErrNone, spoil(1, 0, 1))
	if !same(api.Reply{Flight: b.flight()}, api.Reply{Flight: was}) {
		t.Errorf("P0.2: a refused Spoil spoilt something")
	}
	for i := range int64(80) {
		b.ok(spoil(0, i, 0x41))
		f := b.flight()
		if f[0].Bytes[i] != was[0].Bytes[i]^0x41 {
			t.Errorf("P19.7: byte %d is %02x, was %02x", i, f[0].Bytes[i], was[0].Bytes[i])
		}
		b.ok(api.Act{Kind: api.ActCopy, At: 0})
		b.do(api.Act{Kind: api.ActDeliver, At: 1})
		b.ok(spoil(0, i, 0x41))
		if !same(api.Reply{Flight: b.flight()[:1]}, api.Reply{Flight: was}) {
			t.Errorf("P19.7: turned over twice byte %d is not as it was", i)
		}
		b.ok(api.Act{Kind: api.ActFlush, N: 1})
		b.send(0, wire(udp(cli, web, 9)))
		for len(b.flight()) > 1 {
			b.ok(api.Act{Kind: api.ActLose, At: 0})
		}
	}
	b.check()
}

// deserter is a disk on which host 1 has told an underlay address that no host has.
func deserter(t *testing.T, c api.Config) api.Disk {
	t.Helper()
	v, _ := vault.Open(c, api.Disk{})
	if a := v.Do(api.Cmd{Kind: api.Acquire, Host: 1, Subnet: sub(2), Pub: quad(198, 51, 100, 7), MAC: api.MAC{2, 2, 2}}); a.Err != api.OK {
		t.Fatal(a)
	}
	return v.Disk()
}

func TestP19_7DeliverToNoHost(t *testing.T) {
	b := opened(t, config(), deserter(t, config()))
	b.steps(0, 20)
	b.pod(0, "cli")
	src := b.pods(0)[0].Addr
	for _, to := range []api.Addr{web, at(2, 3), web} {
		b.is(b.send(0, wire(udp(src, to, 9))), api.VSent, 0, 1)
	}
	if f := b.flight(); len(f) != 3 || f[0].To != quad(198, 51, 100, 7) {
		t.Fatalf("P19.7: in flight is %s", brief(f))
	}
	b.no(api.ErrHost, api.Act{Kind: api.ActDeliver, At: 1})
	if f := b.flight(); len(f) != 2 {
		t.Errorf("P19.7: a packet to no host is not gone: %s", brief(f))
	}
	b.no(api.ErrHost, api.Act{Kind: api.ActDeliver, At: 1})
	b.no(api.ErrNone, api.Act{Kind: api.ActDeliver, At: 1})
	// Flush takes them and counts them, and goes on behind them.
	b.is(b.send(0, wire(udp(src, web, 9))), api.VSent, 0, 1)
	b.calm()
	b.pod(1, "web")
	b.is(b.send(0, wire(udp(src, web, 9))), api.VSent, 0, 1)
	b.is(b.send(0, wire(udp(src, web, 8))), api.VSent, 0, 1)
	r := b.flush(3)
	if r.N != 3 || len(r.Given) != 1 || r.Given[0].Name != "web" {
		t.Errorf("P19.7: Flush = %s", brief(r))
	}
	r = b.flush(3)
	if r.N != 1 || len(r.Given) != 1 || r.Given[0].Bytes[8] != 6 {
		t.Errorf("P19.7: Flush = %s", brief(r))
	}
	// An underlay address beside those of the hosts is no host's.
	for _, to := range []api.Addr{pub(-1), pub(3), 0, 1<<32 - 1} {
		b.w.flight.Put(api.Sent{To: to, Bytes: sealed(0, nil)})
		if r := b.w.Do(api.Act{Kind: api.ActDeliver}); !same(r, api.Reply{Err: api.ErrHost}) {
			t.Errorf("P19.7: to %08x: %s", to, brief(r))
		}
	}
	b.check()
}

func TestP19_7Flush(t *testing.T) {
	b := cluster(t)
	if r := b.flush(1); !same(r, api.Reply{}) {
		t.Errorf("P19.7: Flush of nothing = %s", brief(r))
	}
	var want []api.Given
	for i := range 5 {
		p := udp(cli, web, byte(10+i))
		b.send(0, wire(p))
		want = append(want, givenTo(1, web, "web", p, byte(8+i)))
		p = udp(web, far, byte(20+i))
		b.send(1, wire(p))
		want = append(want, givenTo(2, far, "log", p, byte(18+i)))
	}
	for _, x := range []struct{ n, took int64 }{{1, 1}, {3, 3}, {7, 6}, {1, 0}} {
		r := b.flush(x.n)
		if r.N != x.took || !same(api.Reply{Given: r.Given}, api.Reply{Given: want[:x.took]}) {
			t.Errorf("P19.7: Flush %d = %s", x.n, brief(r))
		}
		want = want[x.took:]
	}
	// What a delivery puts into flight is taken too, as far as N goes.
	send := func() {
		b.send(0, wire(udp(cli, web, 2)))
		b.send(0, wire(ping(cli, at(2, 1), 9, 3)))
		b.send(0, wire(udp(cli, web, 9)))
	}
	send()
	if r := b.flush(65536); r.N != 5 || len(r.Given) != 3 || r.Given[0].Name != "web" || r.Given[1].Name != "cli" || r.Given[2].Name != "cli" {
		t.Errorf("P19.7: Flush with what comes of it = %s", brief(r))
	}
	send()
	if r := b.flush(4); r.N != 4 || len(r.Given) != 2 {
		t.Errorf("P19.7: Flush with what comes of it = %s", brief(r))
	}
	if f := b.flight(); len(f) != 1 {
		t.Errorf("P19.7: in flight is %s", brief(f))
	}
	b.check()
}

// An underlay that is full: what finds no room is lost, and the reply tells how much found some.
func TestP19_10Full(t *testing.T) {
	b := cluster(t, withMTU(126))
	long := wire(sized(udp(cli, web, 9), 20+3*56))
	b.is(b.send(0, long), api.VSent, 0, 3)
	for range api.MaxFlight - 2 - 3 {
		b.w.Do(api.Act{Kind: api.ActCopy})
		b.m.do(api.Act{Kind: api.ActCopy})
	}
	b.is(b.send(0, long), api.VSent, 0, 2)
	f := b.flight()
	if len(f) != api.MaxFlight {
		t.Fatalf("P19.10: %d in flight", len(f))
	}
	if p, q := inner(t, f[api.MaxFlight-2]), inner(t, f[api.MaxFlight-1]); p.Head.Off != 0 || q.Head.Off != 56 {
		t.Errorf("P19.10: the first ones did not find the room: %d, %d", p.Head.Off, q.Head.Off)
	}
	b.is(b.send(0, long), api.VSent, 0, 0)
	b.is(b.send(0, wire(udp(far, at(1, 9), 9))), api.VNoPod, 0, 0)
	b.no(api.ErrFull, api.Act{Kind: api.ActCopy})
	// A pod of the same host is given its packet all the same.
	p := udp(at(1, 9), cli, 9)
	b.is(b.send(0, wire(p)), api.VDelivered, 0, 0, givenTo(0, cli, "cli", p, 8))
	// A delivery makes room for what comes of it.
	b.unpod(1, "web")
	b.is(b.deliver(api.MaxFlight-2), api.VNoPod, 0, 1)
	if f := b.flight(); len(f) != api.MaxFlight || f[api.MaxFlight-1].To != pub(0) {
		t.Errorf("P19.10: %d in flight", len(f))
	}
	if r := b.flush(api.MaxFlush); r.N <= api.MaxFlight {
		t.Errorf("P19.7: Flush took %d", r.N)
	}
	if f := b.flight(); len(f) != 0 {
		t.Errorf("P19.7: in flight is %s", brief(f))
	}
	b.check()
}

// Pieces go into flight in their order, and come together again however they are delivered.
func TestP19_10Pieces(t *testing.T) {
	b := cluster(t, withMTU(200))
	whole := sized(udp(cli, web, 9), 1000)
	pieces, _ := frag.Split(whole, 150)
	b.is(b.send(0, wire(whole)), api.VSent, 0, int64(len(pieces)))
	for i, s := range b.flight() {
		p := pieces[i]
		p.Head.TTL--
		if got := inner(t, s); !bytes.Equal(wire(got), wire(p)) {
			t.Errorf("P19.10: piece %d is %s, want %s", i, brief(got), brief(p))
		}
	}
	r := b.flush(100)
	if r.N != int64(len(pieces)) || len(r.Given) != len(pieces) {
		t.Fatalf("P19.10: %s", brief(r))
	}
	asm, _ := frag.New(4, 10)
	slices.Reverse(r.Given)
	for i, g := range r.Given {
		p, err := asm.Add(parsed(t, g.Bytes))
		if last := i == len(r.Given)-1; last != (err == api.OK) || last && !bytes.Equal(p.Body, whole.Body) {
			t.Errorf("P19.10: piece %d: %d, %s", i, err, brief(p))
		}
	}
	// A long echo request to a gateway: the request's pieces are no request, and are not answered.
	b.is(b.send(0, wire(ping(cli, at(2, 1), 9, 300))), api.VSent, 0, 3)
	if r := b.flush(100); r.N != 3 || len(r.Given) != 0 {
		t.Errorf("P19.10: %s", brief(r))
	}
	// One that came in whole is answered in pieces, as the reply is too long.
	b.is(b.raw(1, sealed(1, wire(ping(cli, at(2, 1), 9, 300)))), api.VHost, 0, 3)
	if r := b.flush(100); r.N != 3 || len(r.Given) != 3 {
		t.Errorf("P19.10: %s", brief(r))
	}
	b.check()
}

// A route to a host that has rebooted: what was sealed for its old MAC is refused there.
func TestP19_10Stale(t *testing.T) {
	b := cluster(t)
	b.reboot(1)
	b.is(b.send(0, wire(udp(cli, web, 9))), api.VSent, 0, 1)
	b.is(b.deliver(0), api.VBadMAC, 0, 0)
	// Behind its loss of the lease a host knows the address no more.
	b = cluster(t)
	b.revoke(1)
	b.steps(1, 2)
	b.is(b.send(0, wire(udp(cli, web, 9))), api.VSent, 0, 1)
	b.is(b.deliver(0), api.VNoRoute, 0, 0)
	b.check()
}

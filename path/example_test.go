package path

import (
	"testing"

	"weft/api"
	"weft/frag"
	"weft/tunnel"
)

// The chapter's examples, line by line.
func TestP17_4Examples(t *testing.T) {
	b, other := host(t, 1, 1500), host(t, 2, 1500)
	first := b.sends(udp(cli, web, 64)).is(api.VSent)
	first.puts(udp(cli, web, 63))
	if sent := first.r.Out[0]; len(sent.Bytes) != 80 || sent.To != quad(192, 0, 2, 11) {
		t.Errorf("P17.4: %d bytes to %x", len(sent.Bytes), sent.To)
	}
	b.sends(udp(cli, web, 1)).is(api.VTimeOut).tells(udp(cli, web, 1), 11, 0, 0)
	b.sends(udp(at(1, 9), cli, 2)).is(api.VDelivered).gives("cli", udp(at(1, 9), cli, 1))
	b.sends(udp(at(1, 9), cli, 1)).only(api.VTimeOut)
	b.sends(udp(cli, at(1, 7), 9)).is(api.VNoPod).tells(udp(cli, at(1, 7), 9), 3, 1, 0)
	b.sends(udp(cli, quad(10, 9, 0, 1), 9)).is(api.VNoRoute).tells(udp(cli, quad(10, 9, 0, 1), 9), 3, 0, 0)
	b.sends(udp(cli, at(1, 255), 9)).only(api.VBroadcast)
	b.sends(udp(cli, at(1, 0), 9)).only(api.VBroadcast)
	b.sends(udp(cli, here, 0)).only(api.VHost)
	b.sends(ping(cli, here, 1)).is(api.VHost).gives("cli", pong(here, cli))
	b.sends(udp(cli, quad(224, 0, 0, 1), 9)).only(api.VBadDst)
	b.send([]byte{1, 2, 3}).isWith(api.VBadPacket, api.ErrShort).nothing()
	other.receive(first.r.Out[0].Bytes).is(api.VDelivered).gives("web", udp(cli, web, 62))
	b.receive(first.r.Out[0].Bytes).only(api.VNotMine)
	long := udp(cli, web, 64)
	long.Body = run(1431)
	b.sends(withDF(long)).is(api.VTooBig).tells(withDF(long), 3, 4, 1450)
	cut := b.sends(long).is(api.VSent)
	one, two := withTTL(long, 63), withTTL(long, 63)
	one.Body, one.Head.MF = long.Body[:1424], true
	two.Body, two.Head.Off = long.Body[1424:], 1424
	cut.puts(one, two)
	want := []int{0, 1, 0, 1, 1, 2, 2, 2, 1, 1, 0, 0, 1, 2, 0, 1, 0, 0, 0, 0, 0, 0}
	for v, n := range b.counts() {
		if n != want[v] {
			t.Errorf("P17.9: verdict %d was counted %d times, want %d", v, n, want[v])
		}
	}
}

// Whole ways between two hosts: there, and the fault or the echo back.
func TestP17_6ThereAndBack(t *testing.T) {
	b, other := host(t, 1, 1500), host(t, 2, 1500)
	o := b.sends(udp(cli, web, 2)).is(api.VSent)
	o = other.receive(o.r.Out[0].Bytes).is(api.VTimeOut)
	o.putsTo(pub(1), mac(1), faultOf(udp(cli, web, 1), 11, 0, 0, beyond))
	b.receive(o.r.Out[0].Bytes).is(api.VDelivered).gives("cli", withTTL(faultOf(udp(cli, web, 1), 11, 0, 0, beyond), 63))
	o = b.sends(ping(cli, beyond, 2)).is(api.VSent)
	o = other.receive(o.r.Out[0].Bytes).is(api.VHost)
	o.putsTo(pub(1), mac(1), pong(beyond, cli))
	b.receive(o.r.Out[0].Bytes).is(api.VDelivered).gives("cli", withTTL(pong(beyond, cli), 63))
	o = b.sends(udp(cli, at(2, 3), 9)).is(api.VSent)
	o = other.receive(o.r.Out[0].Bytes).is(api.VNoPod)
	o.putsTo(pub(1), mac(1), faultOf(udp(cli, at(2, 3), 8), 3, 1, 0, beyond))
	b.unbind(cli)
	b.receive(o.r.Out[0].Bytes).only(api.VNoPod)
}

// Pieces of a long packet come together again at the pod.
func TestP17_4PiecesReassemble(t *testing.T) {
	for _, mtu := range []int{126, 127, 133, 134, 576, 1500, 9000} {
		for _, total := range []int{mtu - 50, mtu - 49, mtu, 3*mtu + 5, 65535} {
			b, other := host(t, 1, mtu), host(t, 2, mtu)
			p := sized(withOpts(udp(cli, web, 64), 0x83, 7, 4, 10, 9, 9, 9, 7, 3, 4, 1, 0), total)
			asm, _ := frag.New(1, 9)
			sent := b.sends(p).is(api.VSent).r.Out
			for i, s := range sent {
				if len(s.Bytes) > mtu {
					t.Errorf("P17.4: a packet of %d bytes, MTU %d", len(s.Bytes), mtu)
				}
				o := other.receive(s.Bytes).is(api.VDelivered)
				piece := parsed(t, o.r.Local[0].Bytes)
				whole, err := asm.Add(piece)
				if last := i == len(sent)-1; last != (err == api.OK) {
					t.Fatalf("P17.4: piece %d of %d: %d", i, len(sent), err)
				}
				if err == api.OK && string(raw(whole)) != string(raw(withTTL(p, 62))) {
					t.Errorf("P17.4: the pieces became %+v", whole.Head)
				}
			}
			if _, _, err := tunnel.Open(sent[0].Bytes); err != api.OK || total > mtu-50 == (len(sent) == 1) {
				t.Errorf("P17.4: %d pieces of %d bytes, MTU %d", len(sent), total, mtu)
			}
		}
	}
}

package nat

import (
	"bytes"
	"testing"

	"weft/api"
	"weft/flow"
	"weft/icmp"
)

// comesHome turns a packet, tells a fault about it, and brings that home: it must tell of the packet as it was.
func comesHome(t *testing.T, p api.Packet, u api.Tuple, typ, code byte, arg int, a, b api.Addr) {
	t.Helper()
	own, err := flow.Of(p)
	if err != api.OK {
		t.Fatalf("the test's own packet %+v: %d", p, err)
	}
	f, err := icmp.Fault(mustTurn(t, p, u), typ, code, arg, gate)
	if err != api.OK {
		t.Fatalf("icmp.Fault about %+v under %+v: %d", p, u, err)
	}
	g := mustTurnFault(t, f, a, b, own)
	h, q, err := icmp.About(g)
	if err != api.OK || !sameHead(h, p.Head) || g.Head.Src != a || g.Head.Dst != b {
		t.Fatalf("P23.4: %+v came home as %+v, %d", p.Head, h, err)
	}
	want := bytes.Clone(p.Body[:8])
	if p.Head.Proto == 1 && get(q, 2)%65535 == 0 && get(want, 2)%65535 == 0 {
		put(want, 2, get(q, 2))
	}
	if !bytes.Equal(q, want) {
		t.Fatalf("P23.4: %x came home as %x", want, q)
	}
	c, err := icmp.Parse(g.Body)
	old, _ := icmp.Parse(f.Body)
	if err != api.OK || c.Type != typ || c.Code != code || c.Rest != old.Rest {
		t.Fatalf("P23.4: type %d, code %d, arg %d became %+v, %d", typ, code, arg, c, err)
	}
}

var plain = []api.Addr{cli, web, vip, far, pub, gate, quad(1, 0, 0, 1), quad(223, 255, 255, 255)}

func TestP23_4EachProtocolAndFault(t *testing.T) {
	for _, proto := range protos {
		for _, opts := range areas {
			p := of(tup(cli, vip, proto, 4000, 4000), counted(20)...)
			p.Head.Opts, p.Head.ID, p.Head.DF, p.Head.TTL = opts, 9, true, 1
			for _, u := range []api.Tuple{tup(cli, web, proto, 8080, 8080), tup(pub, vip, proto, 40000, 40000), tup(cli, vip, proto, 4000, 4000)} {
				for code := range byte(16) {
					comesHome(t, p, u, 3, code, 0, vip, cli)
				}
				for _, arg := range []int{0, 68, 1450, 65535} {
					comesHome(t, p, u, 3, 4, arg, 0, 0)
				}
				comesHome(t, p, u, 11, 0, 0, cli, vip)
				comesHome(t, p, u, 11, 1, 0, 1<<32-1, 5)
				comesHome(t, p, u, 12, 0, 255, cli, cli)
				comesHome(t, p, u, 12, 2, 0, u.Src, u.Dst)
			}
		}
	}
}

func TestP23_4ByDice(t *testing.T) {
	r := dice()
	for range 30000 {
		p := anyPacket(r)
		p.Head.Src, p.Head.Dst = pick(r, plain...), pick(r, plain...)
		if r.Intn(2) == 0 {
			p = withSum(p)
		}
		u := anyTuple(r, p.Head.Proto)
		u.Src, u.Dst = pick(r, plain...), pick(r, plain...)
		comesHome(t, p, u, pick[byte](r, 3, 11, 12), byte(r.Intn(2)), 0, api.Addr(r.Uint32()), pick(r, plain...))
	}
}

// A datagram's sum comes home just as it was, whatever it was.
func TestP23_4DatagramsSums(t *testing.T) {
	u := tup(cli, web, 17, 8080, 9)
	for f := 0; f < 1<<16; f += 257 {
		comesHome(t, withField(of(tup(cli, vip, 17, 4000, 80)), uint16(f)), u, 3, 3, 0, vip, cli)
	}
}

// Echoes of zeros, whose sums are at the edges.
func TestP23_4Zeros(t *testing.T) {
	for _, typ := range []byte{0, 8} {
		for _, f := range []uint16{0, 1, 0xf7ff, 65530, 65535} {
			for _, from := range []uint16{0, 5, 65535} {
				for _, to := range []uint16{0, 5, 0xf7ff, 65535} {
					p := api.Packet{Head: api.Head{TTL: 3, Proto: 1, Src: cli, Dst: vip}, Body: make([]byte, 8)}
					p.Body[0] = typ
					put(p.Body, 2, f)
					put(p.Body, 4, from)
					comesHome(t, p, tup(pub, vip, 1, to, to), 11, 0, 0, far, cli)
				}
			}
		}
	}
}

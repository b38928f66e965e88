package path

import (
	"encoding/hex"
	"strings"
	"testing"

	"weft/api"
	"weft/tunnel"
)

// hexed reads bytes that are written in hex, with blanks between.
func hexed(s string) []byte {
	b, err := hex.DecodeString(strings.ReplaceAll(s, " ", ""))
	if err != nil {
		panic(err)
	}
	return b
}

// The bytes of the chapter's first example, written out.
func TestP17_7Bytes(t *testing.T) {
	sent := host(t, 1, 1500).sends(udp(cli, web, 64)).is(api.VSent).r.Out
	want := hexed("45000050 00004000 4011b687 c000020a c000020b" + // the outer header
		"c5a5 2118 003c 0000" + // UDP
		"08000000 00000100" + // the tunnel header
		"0200c000020b 0200c000020a 0800" + // the frame
		"4500001e 00050000 3f1164bd 0a050102 0a050202 0102030405060708090a")
	if len(sent) != 1 || sent[0].To != 0xc000020b || string(sent[0].Bytes) != string(want) {
		t.Errorf("P17.7: sent %s, want %x", brief(sent), want)
	}
}

// Each field of the Env and of the hop has its place.
func TestP17_7Fields(t *testing.T) {
	e := api.Env{Pub: 0x01020304, MAC: api.MAC{1, 3, 5, 7, 9, 11}, VNI: 0xabcdef, Port: 65535, MTU: 1500}
	k := begun(t, 1500, putVia(at(2, 0), 24, 7), putNeigh(7, api.MAC{2, 4, 6, 8, 10, 12}), putFdb(api.MAC{2, 4, 6, 8, 10, 12}, 0xf1f2f3f4)).k
	b := over(t, e, k)
	o := b.sends(udp(cli, web, 9)).is(api.VSent)
	o.putsTo(0xf1f2f3f4, api.MAC{2, 4, 6, 8, 10, 12}, udp(cli, web, 8))
	outer, frame, _ := tunnel.Open(o.r.Out[0].Bytes)
	if want := (api.Outer{Src: 0x01020304, Dst: 0xf1f2f3f4, SrcPort: tunnel.Flow(frame), DstPort: 65535, TTL: 64, VNI: 0xabcdef}); outer != want {
		t.Errorf("P17.7: the outer is %+v, want %+v", outer, want)
	}
	if frame.Dst != (api.MAC{2, 4, 6, 8, 10, 12}) || frame.Src != e.MAC || frame.Type != 0x0800 {
		t.Errorf("P17.7: the frame is %+v", frame)
	}
}

// The source port is that of the flow: all pieces of a packet share it, other ends have another.
func TestP17_7SourcePort(t *testing.T) {
	b := host(t, 1, 126)
	ports := func(p api.Packet) map[uint16]int {
		n := map[uint16]int{}
		for _, s := range b.sends(p).is(api.VSent).r.Out {
			outer, frame, _ := tunnel.Open(s.Bytes)
			n[outer.SrcPort]++
			if outer.SrcPort != tunnel.Flow(frame) {
				t.Errorf("P17.7: source port %d, want %d", outer.SrcPort, tunnel.Flow(frame))
			}
		}
		return n
	}
	one, two := ports(sized(udp(cli, web, 9), 500)), ports(sized(udp(cli, at(2, 3), 9), 500))
	if len(one) != 1 || len(two) != 1 {
		t.Errorf("P17.7: source ports %v and %v", one, two)
	}
	for port := range one {
		if two[port] != 0 {
			t.Errorf("P17.7: both have the source port %d", port)
		}
	}
}

// Pieces go to where the kernel says, in order, with the same outer but for their lengths.
func TestP17_7AllPieces(t *testing.T) {
	b := host(t, 1, 126).does(putVia(at(3, 0), 24, 5), putNeigh(5, mac(7)), putFdb(mac(7), pub(7)))
	p := sized(udp(cli, at(3, 4), 9), 20+120)
	q := withTTL(p, 8)
	b.sends(p).is(api.VSent).putsTo(pub(7), mac(7), part(q, 0, 56, true), part(q, 56, 112, true), part(q, 112, 120, false))
}

// Nothing that stood behind a packet is sealed, in one piece or in several.
func TestP17_7NothingBehind(t *testing.T) {
	b := host(t, 1, 126)
	for _, total := range []int{20, 21, 75, 76, 77, 140, 500} {
		p := sized(udp(cli, web, 9), total)
		for _, more := range []int{1, 7, 8, 56, 1000} {
			got, want := b.send(append(raw(p), run(more)...)).is(api.VSent), b.sends(p).is(api.VSent)
			if !sameResult(got.r, want.r) {
				t.Errorf("P17.7: with %d bytes behind it a packet goes as %s, not as %s", more, brief(got.r), brief(want.r))
			}
		}
	}
}

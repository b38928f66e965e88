package nat

import (
	"bytes"
	"testing"

	"weft/api"
	"weft/icmp"
)

// The chapter's examples, one by one.

const twoBytesHi = "0fa0 0050 000a 7219 6869"

func exampleTuples() (t, u api.Tuple) {
	return tup(quad(10, 5, 1, 2), quad(10, 96, 0, 1), 17, 4000, 80), tup(quad(10, 5, 1, 2), quad(10, 5, 2, 2), 17, 4000, 8080)
}

// examplePacket is p, with that body.
func examplePacket(body string) api.Packet {
	return api.Packet{Head: api.Head{TTL: 64, Proto: 17, Src: quad(10, 5, 1, 2), Dst: quad(10, 96, 0, 1)}, Body: hx(body)}
}

func TestP23_1ExampleTurn(t *testing.T) {
	own, u := exampleTuples()
	p := examplePacket(twoBytesHi)
	q, err := Turn(p, u)
	want := examplePacket("0fa0 1f90 000a 5133 6869")
	want.Head.Dst = quad(10, 5, 2, 2)
	if err != api.OK || !same(q, want) {
		t.Errorf("P23.1: %+v, %d", q, err)
	}
	if back, err := Turn(q, own); err != api.OK || !same(back, p) {
		t.Errorf("P23.2: %+v, %d", back, err)
	}
	if q, err := Turn(examplePacket("0fa0 0050 000a 0000 6869"), u); err != api.OK || !bytes.Equal(q.Body, hx("0fa0 1f90 000a 0000 6869")) {
		t.Errorf("P23.1: %x, %d", q.Body, err)
	}
	segment := u
	segment.Proto = 6
	refuses(t, p, segment, api.ErrMatch)
	p.Head.Off = 8
	refuses(t, p, u, api.ErrMatch)
}

func TestP23_3ExampleTurnFault(t *testing.T) {
	own, u := exampleTuples()
	q, _ := Turn(examplePacket(twoBytesHi), u)
	f, err := icmp.Fault(q, 3, 3, 0, quad(10, 5, 2, 1))
	if err != api.OK || !bytes.Equal(f.Body, hx("03037c8f 00000000 4500001e 00000000 401163c2 0a050102 0a050202 0fa01f90 000a5133")) {
		t.Fatalf("P6.3: %x, %d", f.Body, err)
	}
	g, err := TurnFault(f, quad(10, 96, 0, 1), quad(10, 5, 1, 2), own)
	if err != api.OK || g.Head.Src != quad(10, 96, 0, 1) || g.Head.Dst != quad(10, 5, 1, 2) || !bytes.Equal(g.Body, hx("03037ae9 00000000 4500001e 00000000 40116568 0a050102 0a600001 0fa00050 000a7219")) {
		t.Errorf("P23.3: %+v, %d", g, err)
	}
	refusesFault(t, examplePacket(twoBytesHi), own, api.ErrICMP)
}

func TestP23_1ExampleEchoes(t *testing.T) {
	p := api.Packet{Head: api.Head{TTL: 64, Proto: 1, Src: quad(10, 5, 1, 2), Dst: quad(198, 51, 100, 7)}, Body: hx("08003395 00070001 616263")}
	u := tup(quad(192, 0, 2, 10), quad(198, 51, 100, 7), 1, 32768, 32768)
	if q, err := Turn(p, u); err != api.OK || q.Head.Src != u.Src || !bytes.Equal(q.Body, hx("0800b39b 80000001 616263")) {
		t.Errorf("P23.1: %+v, %d", q, err)
	}
	u.DstPort = 32769
	refuses(t, p, u, api.ErrMatch)
	zeros := api.Packet{Head: api.Head{Proto: 1, Src: cli, Dst: web}, Body: hx("0000ffff 00000000")}
	five, err := Turn(zeros, tup(cli, web, 1, 5, 5))
	if err != api.OK || !bytes.Equal(five.Body, hx("0000fffa 00050000")) {
		t.Errorf("P23.1: %x, %d", five.Body, err)
	}
	if back, err := Turn(five, tup(cli, web, 1, 0, 0)); err != api.OK || !same(back, zeros) {
		t.Errorf("P23.2: %x, %d", back.Body, err)
	}
}

func TestP23_5ExamplePick(t *testing.T) {
	own, _ := exampleTuples()
	list := []api.Backend{{Addr: quad(10, 5, 2, 2), Port: 8080}, {Addr: quad(10, 5, 2, 3), Port: 8080}, {Addr: quad(10, 5, 3, 2), Port: 8080}}
	for i, want := range []uint64{5903460943647917272, 5807838064602685835, 14771540067720115422} {
		if w := weightOf(own, list[i]); w != want {
			t.Errorf("P23.5: weight %d is %d", i, w)
		}
	}
	for i, want := range []int{2, 2, 1, 2, 1, 0, 2, 2} {
		u := own
		u.SrcPort += uint16(i)
		if got, err := Pick(u, list...); got != want || err != api.OK {
			t.Errorf("P23.5: from port %d: %d, %d", u.SrcPort, got, err)
		}
	}
	if w := weightOf(api.Tuple{}, api.Backend{}); w != 8726590786421046854 {
		t.Errorf("P23.5: of zeros: %d", w)
	}
	if i, err := Pick(own); i != 0 || err != api.ErrBackend {
		t.Errorf("P23.5: of none: %d, %d", i, err)
	}
	if i, err := Pick(own, make([]api.Backend, 257)...); i != 0 || err != api.ErrLong {
		t.Errorf("P23.5: of 257: %d, %d", i, err)
	}
}

func TestP23_6ExamplePorts(t *testing.T) {
	b := begun(t, 5, 6).takes(17, 6, 6).takes(17, 6, 5)
	if port, err := b.take(17, 6); port != 0 || err != api.ErrPort {
		t.Errorf("P23.6: of none: %d, %d", port, err)
	}
	b.takes(6, 9, 5)
	b.gives(17, 6, api.OK).gives(17, 6, api.ErrPort)
	if b.x.Taken(17) != 1 || b.x.Taken(6) != 1 {
		t.Errorf("P23.6: Taken: %d, %d", b.x.Taken(17), b.x.Taken(6))
	}
	for _, ends := range [][2]uint16{{0, 9}, {9, 8}} {
		if x, err := New(ends[0], ends[1]); x != nil || err != api.ErrArg {
			t.Errorf("P23.6: New(%d, %d) = %d", ends[0], ends[1], err)
		}
	}
}

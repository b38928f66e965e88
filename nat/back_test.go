package nat

import (
	"testing"

	"weft/api"
	"weft/flow"
)

// nearly tells whether two packets are the same, but that the sum's field of 0 or 65535 may be the other one of these (of segments and echoes).
func nearly(p, q api.Packet) bool {
	if same(p, q) {
		return true
	}
	return p.Head.Proto != 17 && len(p.Body) == len(q.Body) && fieldOf(p)%65535 == 0 && fieldOf(q)%65535 == 0 && same(p, withField(q, fieldOf(p)))
}

// thereAndBack turns a packet to a tuple and back to its own.
func thereAndBack(t *testing.T, p api.Packet, u api.Tuple) api.Packet {
	t.Helper()
	own, err := flow.Of(p)
	if err != api.OK {
		t.Fatalf("the test's own packet %+v has no tuple: %d", p, err)
	}
	q := mustTurn(t, p, u)
	if got, err := flow.Of(q); got != u || err != api.OK {
		t.Fatalf("P23.2: the tuple is %+v, %d, want %+v", got, err, u)
	}
	if u == own && !same(p, q) {
		t.Fatalf("P23.2: under its own tuple %+v became %+v", p, q)
	}
	if wholeSum(p) == 0 && wholeSum(q) != 0 && !(p.Head.Proto == 17 && fieldOf(p) == 0) {
		t.Fatalf("P23.2: a right sum became a wrong one: %+v, %+v", p, q)
	}
	back := mustTurn(t, q, own)
	if !nearly(p, back) {
		t.Fatalf("P23.2: %+v came back as %+v", p, back)
	}
	return back
}

func TestP23_2EachProtocol(t *testing.T) {
	for _, proto := range protos {
		own := tup(cli, vip, proto, 4000, 4000)
		for _, u := range []api.Tuple{own, tup(cli, web, proto, 4000, 4000), tup(pub, vip, proto, 40000, 40000), tup(vip, cli, proto, 0, 0), tup(0, 0, proto, 0, 0), tup(1<<32-1, 1<<32-1, proto, 65535, 65535), tup(0xffff, 0xffff0000, proto, 65535, 65535)} {
			for _, behind := range [][]byte{nil, {1}, make([]byte, 9), counted(30)} {
				p := of(own, behind...)
				for _, opts := range areas {
					p.Head.Opts, p.Head.ID, p.Head.DF = opts, 7, true
					if back := thereAndBack(t, p, u); !same(back, p) && fieldOf(p)%65535 != 0 {
						t.Errorf("P23.2: %+v came back as %+v", p, back)
					}
				}
			}
		}
	}
}

// Every field there and back: a datagram's come back as they were, of segments and echoes all but 0 and 65535.
func TestP23_2AllFields(t *testing.T) {
	for _, proto := range protos {
		p := of(tup(cli, vip, proto, 7, 7), counted(5)...)
		u := tup(pub, web, proto, 40000, 40000)
		own, _ := flow.Of(p)
		for f := range 1 << 16 {
			put(p.Body, placeOfSum(proto), uint16(f))
			q, _ := Turn(p, u)
			back, err := Turn(q, own)
			if err != api.OK || !nearly(p, back) {
				t.Fatalf("P23.2: proto %d: the field %d came back as %d", proto, f, fieldOf(back))
			}
		}
	}
}

func TestP23_2ByDice(t *testing.T) {
	r := dice()
	right := map[byte]int{}
	for range 40000 {
		p := anyPacket(r)
		if wholeSum(p) == 0 {
			right[p.Head.Proto]++
		}
		thereAndBack(t, p, anyTuple(r, p.Head.Proto))
	}
	if right[1] < 1000 || right[6] < 1000 || right[17] < 1000 {
		t.Errorf("the test's own packets have right sums: %v", right)
	}
}

// Replies of few bytes that are no zeros: their right sums are at the edges most often.
func TestP23_2SmallEchoes(t *testing.T) {
	numbers := []uint16{0, 1, 5, 0xf7ff, 0xf800, 65530, 65534, 65535}
	for _, typ := range []byte{0, 8} {
		for _, from := range numbers {
			for _, rest := range []uint16{0, 1, 5, 65530, 65534, 65535} {
				p := api.Packet{Head: api.Head{Proto: 1, Src: cli, Dst: web}, Body: []byte{typ, 0, 0, 0, 0, 0, 0, 0}}
				put(p.Body, 4, from)
				put(p.Body, 6, rest)
				p = withSum(p)
				for _, to := range numbers {
					if back := thereAndBack(t, p, tup(pub, far, 1, to, to)); wholeSum(back) != 0 {
						t.Errorf("P23.2: %x came back as %x", p.Body, back.Body)
					}
				}
			}
		}
	}
}

// Datagrams and segments whose right sum comes to 0 or to 65535 under the other tuple.
func TestP23_2SumsAtTheEdges(t *testing.T) {
	for _, proto := range []byte{6, 17} {
		own, u := tup(cli, vip, proto, 7, 7), tup(pub, far, proto, 40000, 40000)
		for want := range uint16(3) {
			p := of(own, 0, 0)
			at := len(p.Body) - 2
			for v := range 1 << 16 {
				put(p.Body, at, uint16(v))
				p = withSum(p)
				if fieldOf(mustTurnQuick(p, u))%65535 == want {
					break
				}
			}
			q := mustTurn(t, p, u)
			if fieldOf(q)%65535 != want || wholeSum(q) != 0 || proto == 17 && fieldOf(q) == 0 {
				t.Errorf("P23.2: proto %d: %x became %x", proto, p.Body, q.Body)
			}
			thereAndBack(t, p, u)
		}
	}
}

func mustTurnQuick(p api.Packet, u api.Tuple) api.Packet {
	q, err := Turn(p, u)
	if err != api.OK {
		panic("a test's packet is not turned")
	}
	return q
}

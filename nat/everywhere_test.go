package nat

import (
	"bytes"
	"fmt"
	"math/rand"
	"sync"
	"testing"

	"weft/api"
	"weft/flow"
	"weft/icmp"
)

// wild is a packet of any numbers, of which every one is often at an edge.
func wild(r *rand.Rand) api.Packet {
	h := api.Head{TOS: byte(r.Int()), ID: uint16(r.Int()), DF: r.Intn(2) == 0, MF: r.Intn(4) == 0, TTL: byte(r.Int())}
	h.Src, h.Dst = api.Addr(r.Uint32()), pick(r, cli, web, 0, 1<<32-1, api.Addr(r.Uint32()))
	h.Proto = pick(r, 1, 1, 6, 6, 17, 17, 0, 47, byte(r.Int()))
	if r.Intn(4) == 0 {
		h.Off = pick(r, least, -65536, -8, -1, 1, 4, 8, 8, 16, 1024, 65520, 65528, 65529, 65536, most)
	}
	if r.Intn(4) == 0 {
		h.Opts = counted(r.Intn(48))
	}
	if r.Intn(4) == 0 {
		h.Opts = pick(r, areas...)
	}
	n := pick(r, 0, 1, 7, 8, 8, 9, 13, 16, 17, 18, 19, 20, 20, 21, 24, 64, 1000)
	if r.Intn(12) == 0 {
		n = pick(r, 65514, 65515, 65516, 65535, 65536, 70000)
	}
	body := make([]byte, n)
	r.Read(body)
	if h.Proto == 1 {
		copy(body, pick(r, []byte{8, 0}, []byte{0, 0}, []byte{8, 1}, []byte{3, 1}, []byte{}))
	}
	return api.Packet{Head: h, Body: body}
}

// wildTuple is mostly one that fits.
func wildTuple(r *rand.Rand, proto byte) api.Tuple {
	u := anyTuple(r, proto)
	if r.Intn(4) == 0 {
		u.Proto = pick(r, 0, 1, 6, 17, byte(r.Int()))
	}
	if r.Intn(4) == 0 {
		u.DstPort = uint16(r.Int())
	}
	return u
}

// wildFault is a fault with a message of any bytes, most often nearly one that can be turned.
func wildFault(r *rand.Rand) (api.Packet, api.Tuple) {
	p := anyPacket(r)
	n := pick(r, 0, 7, 8, 8, 8, 16, 17, 18, 19, 20, 40)
	quoted := append(bytes.Clone(p.Body), counted(40)...)[:n]
	told := len(p.Body)
	if p.Head.MF || r.Intn(3) == 0 {
		told = pick(r, 0, 8, 16, 24, 64)
	}
	p.Head.MF = p.Head.MF && told > 0
	f := telling(pick[byte](r, 3, 3, 3, 11, 12, 4, 5, byte(r.Int())), byte(r.Intn(3)), r.Uint32(), p.Head, told, quoted)
	f.Head.Opts = pick(r, areas...)
	if r.Intn(3) == 0 { // a byte or two spoilt, and sums made right or not
		for range 1 + r.Intn(2) {
			f.Body[r.Intn(len(f.Body))] ^= byte(1 << r.Intn(8))
		}
		if size := int(f.Body[8]&15) * 4; r.Intn(3) > 0 && size >= 20 && len(f.Body) >= 8+size {
			put(f.Body, 18, 0)
			put(f.Body, 18, sumOf(f.Body[8:8+size]))
		}
		if r.Intn(3) > 0 {
			put(f.Body, 2, 0)
			put(f.Body, 2, sumOf(f.Body))
		}
	}
	return f, wildTuple(r, p.Head.Proto)
}

// Any arguments: every call ends and none panics, and answers as the model does.
func TestP0_1AnyPackets(t *testing.T) {
	r := dice()
	seen := map[api.Errno]int{}
	for range 20000 {
		p := wild(r)
		u := wildTuple(r, p.Head.Proto)
		_, err := turned(t, p, u)
		seen[err]++
		turnedFault(t, p, u.Src, u.Dst, u)
	}
	for _, err := range []api.Errno{api.OK, api.ErrMatch, api.ErrOpts, api.ErrOff, api.ErrBig} {
		if seen[err] < 50 {
			t.Errorf("the test's own packets are answered %v", seen)
		}
	}
	for _, p := range []api.Packet{{}, {Body: []byte{}}, {Head: api.Head{Opts: []byte{}}}} {
		for proto := range 256 {
			p.Head.Proto = byte(proto)
			for _, u := range []api.Tuple{{}, {Proto: byte(proto)}} {
				refuses(t, p, u, api.ErrMatch)
				if _, err := turnedFault(t, p, 0, 0, u); err != api.ErrICMP && err != api.ErrShort {
					t.Errorf("P23.3: of nothing: %d", err)
				}
			}
		}
	}
}

func TestP0_1AnyFaults(t *testing.T) {
	r := dice()
	seen := map[api.Errno]int{}
	for range 60000 {
		f, u := wildFault(r)
		_, err := turnedFault(t, f, api.Addr(r.Uint32()), api.Addr(r.Uint32()), u)
		seen[err]++
	}
	for _, err := range []api.Errno{api.OK, api.ErrMatch, api.ErrNotEcho, api.ErrSum, api.ErrShort, api.ErrVersion, api.ErrHead, api.ErrOpts, api.ErrOff} {
		if seen[err] < 20 {
			t.Errorf("the test's own faults are answered %v", seen)
		}
	}
}

// Messages of any bytes in a packet that may carry a fault.
func TestP0_1AnyBytes(t *testing.T) {
	r := dice()
	for range 20000 {
		b := make([]byte, r.Intn(64))
		r.Read(b)
		body, _ := icmp.Build(api.Control{Type: pick[byte](r, 3, 11, 12), Body: b})
		p := api.Packet{Head: api.Head{Proto: 1}, Body: body}
		turnedFault(t, p, 1, 2, wildTuple(r, pick(r, protos...)))
	}
}

// A fault can be turned once more, and back.
func TestP0_1FaultsThereAndBack(t *testing.T) {
	r := dice()
	for range 5000 {
		p := anyPacket(r)
		own, _ := flow.Of(p)
		told := len(p.Body)
		f := telling(3, 0, 0, p.Head, told, p.Body[:min(told, pick(r, 8, 20, 400))])
		u := anyTuple(r, p.Head.Proto)
		g := mustTurnFault(t, f, vip, cli, u)
		back := mustTurnFault(t, g, f.Head.Src, f.Head.Dst, own)
		_, h, q := inside(t, back)
		_, h0, q0 := inside(t, f)
		if !sameHead(h, h0) || len(q) != len(q0) {
			t.Fatalf("P23.3: %+v came back as %+v", h0, h)
		}
		for i := range q {
			if sum := i/2*2 == placeOfSum(p.Head.Proto); q[i] != q0[i] && !(sum && get(q, i/2*2)%65535 == 0 && get(q0, i/2*2)%65535 == 0) {
				t.Fatalf("P23.3: %x came back as %x", q0, q)
			}
		}
	}
}

// A nil list is the same as an empty one.
func TestP0_4NilAndEmpty(t *testing.T) {
	for _, empty := range [][]byte{nil, {}} {
		p := of(tup(cli, vip, 17, 7, 7))
		p.Head.Opts = empty
		if q := mustTurn(t, p, tup(cli, web, 17, 9, 9)); len(q.Head.Opts) != 0 {
			t.Errorf("P0.4: options %x", q.Head.Opts)
		}
		p.Body = empty
		refuses(t, p, tup(cli, vip, 17, 0, 0), api.ErrMatch)
		refusesFault(t, p, tup(cli, vip, 17, 0, 0), api.ErrICMP)
		p.Head.Proto = 1
		refusesFault(t, p, tup(cli, vip, 17, 0, 0), api.ErrShort)
	}
}

// The same calls are answered alike, in whichever goroutine.
func TestP0_5SameCallsSameAnswers(t *testing.T) {
	play := func() string {
		r := dice()
		x, _ := New(5, 90)
		var told []any
		for range 1500 {
			p, list := anyPacket(r), someBackends(1+r.Intn(9))
			u := wildTuple(r, p.Head.Proto)
			q, err := Turn(p, u)
			f, v := wildFault(r)
			g, err2 := TurnFault(f, vip, cli, v)
			i, err3 := Pick(u, list...)
			port, err4 := x.Take(u.Proto, u.SrcPort)
			told = append(told, q, err, g, err2, i, err3, port, err4, x.Give(u.Proto, uint16(r.Intn(99))), x.Taken(u.Proto))
		}
		return fmt.Sprint(told...)
	}
	var wg sync.WaitGroup
	answers := make([]string, 8)
	for i := range answers {
		wg.Go(func() { answers[i] = play() })
	}
	wg.Wait()
	for _, a := range answers {
		if a != answers[0] {
			t.Fatal("P0.5: the same calls were answered otherwise")
		}
	}
}

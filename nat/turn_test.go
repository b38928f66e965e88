package nat

import (
	"bytes"
	"testing"

	"weft/api"
	"weft/flow"
)

// errPackets are packets that ip4.Build refuses, each with the error.
func errPackets(u api.Tuple) map[api.Errno][]api.Packet {
	with := func(change func(p *api.Packet)) api.Packet {
		p := of(u, counted(8)...)
		change(&p)
		return p
	}
	long := func(n int) api.Packet { return with(func(p *api.Packet) { p.Body = make([]byte, n) }) }
	off := func(n int) api.Packet { return with(func(p *api.Packet) { p.Head.Off = n }) }
	opts := func(s string) api.Packet { return with(func(p *api.Packet) { p.Head.Opts = hx(s) }) }
	return map[api.Errno][]api.Packet{
		api.ErrOpts: {opts("01"), opts("00000001"), opts("83070401"), opts("01010107"), with(func(p *api.Packet) { p.Head.Opts = make([]byte, 44) }),
			with(func(p *api.Packet) { p.Head.Opts, p.Head.Off = hx("01"), 4 })},
		api.ErrOff: {off(4), off(-8), off(-1), off(1), off(65536), off(least), off(most), off(65528), long(65536),
			with(func(p *api.Packet) { p.Head.MF, p.Body = true, nil }), with(func(p *api.Packet) { p.Head.MF, p.Body = true, p.Body[:7] })},
		api.ErrBig: {long(65516), long(65535)},
	}
}

// What ip4.Build refuses is refused with its error, whatever the tuple.
func TestP23_1BuildErrors(t *testing.T) {
	for _, proto := range append(protos, 0, 47) {
		u := tup(cli, vip, proto, 7, 7)
		for err, list := range errPackets(u) {
			for i, p := range list {
				for _, v := range []api.Tuple{u, tup(cli, web, proto, 9, 9), tup(cli, web, 200, 9, 9), tup(cli, web, proto, 8, 9), {}} {
					if q, got := Turn(p, v); got != err || !same(q, api.Packet{}) {
						t.Errorf("P23.1: proto %d, packet %d: %d, want %d", proto, i, got, err)
					}
				}
			}
		}
	}
	p := of(tup(cli, vip, 17, 7, 7))
	p.Head.Opts, p.Body = make([]byte, 40), make([]byte, 65476)
	refuses(t, p, tup(cli, web, 17, 1, 1), api.ErrBig)
	p.Body = p.Body[:65475]
	mustTurn(t, p, tup(cli, web, 17, 1, 1))
}

// Later pieces have no tuple, though their bytes look like one.
func TestP23_1LaterPieces(t *testing.T) {
	for _, proto := range protos {
		u := tup(cli, vip, proto, 7, 7)
		for _, off := range []int{8, 16, 1024, 65520 - 40} {
			p := of(u, counted(8)...)
			p.Head.Off = off
			refuses(t, p, u, api.ErrMatch)
			refuses(t, p, tup(cli, web, proto, 9, 9), api.ErrMatch)
			p.Head.MF, p.Body = true, append(p.Body, counted((8-len(p.Body)%8)%8)...)
			refuses(t, p, u, api.ErrMatch)
		}
	}
}

func TestP23_1ShortBodies(t *testing.T) {
	for _, proto := range protos {
		u, v := tup(cli, vip, proto, 0x0102, 0x0304), tup(cli, web, proto, 9, 9)
		if proto == 1 {
			u = tup(cli, vip, 1, 7, 7)
		}
		whole := of(u, counted(8)...)
		for n := range len(whole.Body) + 1 {
			p := whole
			p.Body = whole.Body[:n]
			if n < leastBody[proto] {
				refuses(t, p, v, api.ErrMatch)
				refuses(t, p, u, api.ErrMatch)
			} else if q := mustTurn(t, p, v); len(q.Body) != n {
				t.Errorf("P23.1: proto %d: %d bytes became %d", proto, n, len(q.Body))
			}
		}
	}
}

// Of all types and codes of messages only echoes are turned.
func TestP23_1TypesAndCodes(t *testing.T) {
	u := tup(cli, web, 1, 9, 9)
	for typ := range 256 {
		for code := range 256 {
			p := of(tup(cli, vip, 1, 7, 7), counted(20)...)
			p.Body[0], p.Body[1] = byte(typ), byte(code)
			if echo := (typ == 0 || typ == 8) && code == 0; !echo {
				refuses(t, p, u, api.ErrMatch)
			} else if q := mustTurn(t, p, u); !bytes.Equal(q.Body[:2], p.Body[:2]) {
				t.Errorf("P23.1: type %d became %d", typ, q.Body[0])
			}
		}
	}
}

// Each protocol of the packet against each of the tuple.
func TestP23_1Protocols(t *testing.T) {
	for proto := range 256 {
		p := of(tup(cli, vip, 17, 0x0800, 7), counted(20)...)
		p.Head.Proto = byte(proto)
		p.Body[0], p.Body[1] = 8, 0
		for other := range 256 {
			q, err := Turn(p, tup(cli, web, byte(other), 9, 9))
			if fits := proto == other && bytes.Contains(protos, []byte{byte(proto)}); fits != (err == api.OK) || !fits && (err != api.ErrMatch || !same(q, api.Packet{})) {
				t.Errorf("P23.1: a packet of %d under a tuple of %d: %+v, %d", proto, other, q, err)
			}
		}
	}
}

// An echo has one number; others may have two ports that are unlike, or alike.
func TestP23_1UnlikePorts(t *testing.T) {
	for _, u := range []api.Tuple{tup(cli, web, 1, 7, 8), tup(cli, web, 1, 8, 7), tup(cli, vip, 1, 7, 0), tup(cli, vip, 1, 0, 7), tup(cli, web, 1, 65535, 0), tup(cli, web, 1, 0x0707, 7), tup(cli, web, 1, 0x0700, 0x0701)} {
		refuses(t, of(tup(cli, vip, 1, 7, 7)), u, api.ErrMatch)
		reply := of(tup(cli, vip, 1, 7, 7))
		reply.Body[0] = 0
		refuses(t, reply, u, api.ErrMatch)
		u.Proto = 17
		mustTurn(t, of(tup(cli, vip, 17, 7, 7)), u)
		u.Proto = 6
		mustTurn(t, of(tup(cli, vip, 6, 7, 8)), u)
	}
}

// All that is not said to change stays: the head's other fields, and the message's other bytes.
func TestP23_1WhatStays(t *testing.T) {
	for _, proto := range protos {
		u, v := tup(cli, vip, proto, 0x1111, 0x1111), tup(pub, far, proto, 0x2222, 0x2222)
		for _, opts := range areas {
			for bit := range 8 {
				p := of(u, counted(44)...)
				p.Head.Opts = opts
				p.Head.TOS, p.Head.ID, p.Head.TTL = byte(1<<bit), uint16(0x0101<<bit), byte(3<<bit)
				p.Head.DF, p.Head.MF = bit&1 == 0, bit&2 == 0 && len(p.Body)%8 == 0
				q := mustTurn(t, p, v)
				want := p.Head
				want.Src, want.Dst = pub, far
				if !sameHead(q.Head, want) || len(q.Body) != len(p.Body) {
					t.Errorf("P23.1: the head %+v became %+v", p.Head, q.Head)
				}
				at, sum := map[byte]int{1: 4}[proto], placeOfSum(proto)
				for i := range q.Body {
					written := i >= at && i < at+2 || proto != 1 && i < 4
					if summed := i == sum || i == sum+1; !summed && !written && q.Body[i] != p.Body[i] || written && q.Body[i] != 0x22 {
						t.Errorf("P23.1: proto %d: byte %d is %x behind %x", proto, i, q.Body[i], p.Body[i])
					}
				}
			}
		}
	}
}

// A packet that is turned has the tuple, which flow.Of tells.
func TestP23_1HasTheTuple(t *testing.T) {
	r := dice()
	for range 20000 {
		p := anyPacket(r)
		u := anyTuple(r, p.Head.Proto)
		if got, err := flow.Of(mustTurn(t, p, u)); err != api.OK || got != u {
			t.Fatalf("P23.2: the tuple is %+v, %d, want %+v", got, err, u)
		}
	}
}

// The same tuple changes nothing, whatever stands in the sum.
func TestP23_1SameTuple(t *testing.T) {
	for _, proto := range protos {
		u := tup(cli, vip, proto, 7, 7)
		for _, f := range []uint16{0, 1, 0x1234, 65534, 65535} {
			for _, behind := range [][]byte{nil, make([]byte, 20), counted(20)} {
				p := withField(of(u, behind...), f)
				if q := mustTurn(t, p, u); !same(p, q) {
					t.Errorf("P23.1: %+v became %+v", p, q)
				}
			}
		}
	}
	zeros := api.Packet{Head: api.Head{Proto: 1, Src: cli, Dst: web}, Body: make([]byte, 40)}
	if q := mustTurn(t, zeros, tup(cli, web, 1, 0, 0)); !same(zeros, q) {
		t.Errorf("P23.1: zeros became %x", q.Body)
	}
	if q := mustTurn(t, zeros, tup(vip, far, 1, 0, 0)); !bytes.Equal(q.Body, zeros.Body) {
		t.Errorf("P23.1: zeros under other addresses became %x", q.Body)
	}
}

// Each word of the tuple alone, and a datagram's and a segment's sum by it; of an echo's the addresses are no part.
func TestP23_1EachWord(t *testing.T) {
	base := tup(quad(1, 2, 3, 4), quad(5, 6, 7, 8), 0, 0x090a, 0x0b0c)
	changes := []func(u *api.Tuple){
		func(u *api.Tuple) { u.Src ^= 0xa5c30000 }, func(u *api.Tuple) { u.Src ^= 0xa5c3 },
		func(u *api.Tuple) { u.Dst ^= 0xa5c30000 }, func(u *api.Tuple) { u.Dst ^= 0xa5c3 },
		func(u *api.Tuple) { u.SrcPort ^= 0xa5c3 }, func(u *api.Tuple) { u.DstPort ^= 0xa5c3 },
		func(u *api.Tuple) { u.Src ^= 1 << 16 }, func(u *api.Tuple) { u.Dst ^= 1 }, func(u *api.Tuple) { u.Src, u.Dst = u.Dst, u.Src }, func(u *api.Tuple) { u.SrcPort, u.DstPort = u.DstPort, u.SrcPort },
	}
	for _, proto := range []byte{6, 17} {
		base.Proto = proto
		p := of(base, counted(9)...)
		for i, change := range changes {
			u := base
			change(&u)
			q := mustTurn(t, p, u)
			if moved := i != 8 && i != 9; wholeSum(q) != 0 || moved == (fieldOf(q) == fieldOf(p)) {
				t.Errorf("P23.1: proto %d, change %d: the sum is %x behind %x", proto, i, fieldOf(q), fieldOf(p))
			}
		}
	}
	p := of(tup(cli, vip, 1, 7, 7), counted(9)...)
	if q := mustTurn(t, p, tup(pub, far, 1, 7, 7)); !bytes.Equal(q.Body, p.Body) || q.Head.Src != pub || q.Head.Dst != far {
		t.Errorf("P23.1: under other addresses an echo became %x", q.Body)
	}
	if q := mustTurn(t, p, tup(pub, far, 1, 8, 8)); wholeSum(q) != 0 || fieldOf(q) != fieldOf(p)-1 {
		t.Errorf("P23.1: under another number an echo became %x", q.Body)
	}
}

// A datagram without a sum gets none, whatever changes.
func TestP23_1NoSum(t *testing.T) {
	r := dice()
	for range 2000 {
		p := withField(of(anyTuple(r, 17), counted(r.Intn(9))...), 0)
		if q := mustTurn(t, p, anyTuple(r, 17)); fieldOf(q) != 0 {
			t.Errorf("P23.1: a sum came to be: %x", q.Body)
		}
	}
}

// All fields, right or wrong, turned over by one word and by many: those that come to 0 and to 65535 too.
func TestP23_1AllFields(t *testing.T) {
	u := map[string][2]uint16{"up": {7, 8}, "down": {8, 7}, "to 0": {5, 0}, "from 0": {0, 5}, "from 65535 to 0": {65535, 0}, "from 0 to 65535": {0, 65535}, "to 65535": {9, 65535}}
	for name, n := range u {
		for _, proto := range protos {
			from, to := tup(cli, vip, proto, n[0], n[0]), tup(cli, vip, proto, n[1], n[1])
			p, seen := of(from, counted(7)...), map[uint16]int{}
			for f := range 1 << 16 {
				put(p.Body, placeOfSum(proto), uint16(f))
				q, err := Turn(p, to)
				got := fieldOf(q)
				seen[got]++
				words := 2
				if proto == 1 {
					words = 1
				}
				want := overTurned(uint16(f), []uint16{n[0], n[0]}[:words], []uint16{n[1], n[1]}[:words])
				if proto == 17 && f == 0 {
					want = 0
				} else if proto == 17 && want == 0 {
					want = 65535
				}
				if err != api.OK || got != want {
					t.Fatalf("P23.1: %s: proto %d: the field %d became %d, want %d", name, proto, f, got, want)
				}
			}
			datagramZero := proto == 17 && seen[0] == 1 && seen[65535] > 0
			if otherZero := proto != 17 && seen[0] > 0 && (seen[65535] > 0) == (name == "from 65535 to 0"); !datagramZero && !otherZero {
				t.Errorf("P23.1: %s: proto %d: %d fields became 0, %d became 65535", name, proto, seen[0], seen[65535])
			}
		}
	}
}

// Sums that come to 0 stay 0 in segments and in echoes, and stand as 65535 in datagrams; 65535 comes out of nothing but itself.
func TestP23_1ZeroAnd65535(t *testing.T) {
	for _, row := range []struct {
		proto       byte
		old, next   uint16 // the port or number
		field, want uint16
	}{
		{17, 10, 11, 1, 65535}, {6, 10, 11, 1, 0}, {1, 10, 11, 1, 0},
		{17, 11, 10, 65534, 65535}, {6, 11, 10, 65534, 0}, {1, 11, 10, 65534, 0},
		{17, 65535, 0, 65535, 65535}, {6, 65535, 0, 65535, 65535}, {1, 65535, 0, 65535, 65535},
		{17, 0, 65535, 65535, 65535}, {6, 0, 65535, 65535, 0}, {1, 0, 65535, 65535, 0},
		{17, 65535, 0, 5, 5}, {6, 65535, 0, 5, 5}, {1, 65535, 0, 5, 5},
		{6, 65535, 0, 0, 0}, {1, 65535, 0, 0, 0}, {17, 65535, 0, 0, 0},
		{17, 10, 11, 65535, 65534}, {6, 10, 11, 65535, 65534}, {1, 10, 11, 65535, 65534},
		{17, 10, 11, 0, 0}, {6, 10, 11, 0, 65534}, {1, 10, 11, 0, 65534},
		{17, 11, 10, 65535, 1}, {6, 11, 10, 65535, 1}, {1, 11, 10, 0, 1},
	} {
		p := withField(of(tup(cli, vip, row.proto, row.old, 4), counted(3)...), row.field)
		u := tup(cli, vip, row.proto, row.next, 4)
		if row.proto == 1 {
			u.DstPort = u.SrcPort
		}
		if q := mustTurn(t, p, u); fieldOf(q) != row.want {
			t.Errorf("P23.1: %+v: %d", row, fieldOf(q))
		}
	}
	// Of the six words two that pass over 0 in between: 65535 is written at the end alone.
	p := withField(of(tup(cli, vip, 17, 10, 10)), 1)
	if q := mustTurn(t, p, tup(cli, vip, 17, 11, 9)); fieldOf(q) != 1 {
		t.Errorf("P23.1: there and back in one turn: %d", fieldOf(q))
	}
	if q := mustTurn(t, p, tup(cli, vip, 17, 11, 10)); fieldOf(q) != 65535 {
		t.Errorf("P23.1: a sum that comes to 0: %d", fieldOf(q))
	}
	if q := mustTurn(t, p, tup(cli, vip, 17, 11, 11)); fieldOf(q) != 65534 {
		t.Errorf("P23.1: a sum that passes over 0: %d", fieldOf(q))
	}
}

// A sum that was wrong is turned over all the same, and is wrong by as much.
func TestP23_1WrongSums(t *testing.T) {
	r := dice()
	for range 20000 {
		p := of(anyTuple(r, pick(r, protos...)), counted(r.Intn(30))...)
		p = withField(p, fieldOf(p)+uint16(1+r.Intn(65534)))
		if p.Head.Proto == 17 && fieldOf(p) == 0 {
			continue
		}
		u := anyTuple(r, p.Head.Proto)
		if was, is := wholeSum(p)%65535, wholeSum(mustTurn(t, p, u))%65535; was != is {
			t.Fatalf("P23.1: %+v under %+v is wrong by %d, and was by %d", p, u, is, was)
		}
	}
}

// A reply of zeros alone has a right sum of 65535; the rule is for a number that has changed, a sum that came to 0, and no other byte but zeros.
func TestP23_1Zeros(t *testing.T) {
	zeros := func(n int, number, f uint16) api.Packet {
		b := make([]byte, n)
		put(b, 2, f)
		put(b, 4, number)
		return api.Packet{Head: api.Head{Proto: 1, Src: cli, Dst: web}, Body: b}
	}
	number := func(n uint16) api.Tuple { return tup(cli, web, 1, n, n) }
	for _, n := range []int{8, 9, 10, 15, 16, 40} {
		for _, old := range []uint16{1, 5, 0x0100, 0xfffa, 65535} {
			right := zeros(n, old, 65535-old)
			back := mustTurn(t, right, number(0))
			if !same(back, zeros(n, 0, 65535)) {
				t.Errorf("P23.1: %x became %x", right.Body, back.Body)
			}
			if there := mustTurn(t, back, number(old)); fieldOf(there) != 65535-old || wholeSum(there) != 0 {
				t.Errorf("P23.1: %x became %x", back.Body, there.Body)
			}
			if wrong := mustTurn(t, zeros(n, old, 65534-old), number(0)); old < 65535 && fieldOf(wrong) != 65534 {
				t.Errorf("P23.1: a wrong sum became %x", wrong.Body)
			}
		}
		if stays := mustTurn(t, zeros(n, 0, 0), number(0)); fieldOf(stays) != 0 {
			t.Errorf("P23.1: with the number as it was: %x", stays.Body)
		}
		for at := range n {
			if at >= 2 && at < 6 || at == 1 {
				continue
			}
			p := zeros(n, 5, 65530)
			p.Body[at] = 8
			p = withSum(p)
			q := mustTurn(t, p, number(0))
			if wholeSum(q) != 0 || fieldOf(q) == 0 || q.Body[at] != 8 {
				t.Errorf("P23.1: byte %d: %x became %x", at, p.Body, q.Body)
			}
			put(p.Body, 2, 65530)
			if q := mustTurn(t, p, number(0)); fieldOf(q) != 0 {
				t.Errorf("P23.1: byte %d, a sum that came to 0: %x became %x", at, p.Body, q.Body)
			}
		}
	}
	for _, to := range []uint16{1, 0x0100, 65535} { // no number of 0: the sum that came to 0 is right, or wrong as it was
		if q := mustTurn(t, zeros(8, 0, to), number(to)); fieldOf(q) != 0 {
			t.Errorf("P23.1: to number %d: %x", to, q.Body)
		}
	}
}

// The rule about zeros is of echoes alone.
func TestP23_1ZerosThatAreNoEcho(t *testing.T) {
	for _, proto := range []byte{6, 17} {
		p := api.Packet{Head: api.Head{Proto: proto, Src: cli, Dst: vip}, Body: make([]byte, leastBody[proto])}
		put(p.Body, 0, 5)
		if proto == 6 {
			put(p.Body, 16, 65530) // it comes to 0
		}
		q := mustTurn(t, p, tup(cli, vip, proto, 0, 0))
		if !bytes.Equal(q.Body, make([]byte, len(p.Body))) {
			t.Errorf("P23.1: proto %d: %x became %x", proto, p.Body, q.Body)
		}
	}
}

// A request has a type that is not 0: its sum may come to 0.
func TestP23_1RequestOfZeros(t *testing.T) {
	p := withSum(api.Packet{Head: api.Head{Proto: 1, Src: cli, Dst: web}, Body: hx("0800 0000 0005 0000")})
	if q := mustTurn(t, p, tup(cli, web, 1, 0xf7ff, 0xf7ff)); fieldOf(q) != 0 || wholeSum(q) != 0 {
		t.Errorf("P23.1: %x became %x", p.Body, q.Body)
	}
	put(p.Body, 2, 65530)
	if q := mustTurn(t, p, tup(cli, web, 1, 0, 0)); fieldOf(q) != 0 {
		t.Errorf("P23.1: %x became %x", p.Body, q.Body)
	}
}

// A first piece has the sum of the whole datagram, which stays right.
func TestP23_1FirstPieces(t *testing.T) {
	for _, proto := range protos {
		whole := of(tup(cli, vip, proto, 7, 7), counted(124)...)
		u := tup(pub, far, proto, 40000, 40000)
		for _, n := range []int{8, 16, 24, 64} {
			p := whole
			p.Head.MF, p.Body = true, whole.Body[:n]
			if n < leastBody[proto] {
				refuses(t, p, u, api.ErrMatch)
				continue
			}
			q := mustTurn(t, p, u)
			joined := whole
			joined.Head.Src, joined.Head.Dst, joined.Body = q.Head.Src, q.Head.Dst, append(bytes.Clone(q.Body), whole.Body[n:]...)
			if !q.Head.MF || wholeSum(joined) != 0 || !same(joined, mustTurn(t, whole, u)) {
				t.Errorf("P23.1: a first piece of %d bytes, proto %d: %+v", n, proto, q)
			}
		}
	}
	// Of a piece the bytes that are there count, though the others may be no zeros.
	p := api.Packet{Head: api.Head{Proto: 1, MF: true, Src: cli, Dst: web}, Body: hx("0000 fffa 0005 0000")}
	if q := mustTurn(t, p, tup(cli, web, 1, 0, 0)); !bytes.Equal(q.Body, hx("0000 ffff 0000 0000")) {
		t.Errorf("P23.1: a first piece of zeros: %x", q.Body)
	}
}

// A datagram's told length, a segment's data offset and the like are not looked at.
func TestP23_1WhatIsNotLookedAt(t *testing.T) {
	for _, told := range []uint16{0, 7, 8, 9, 65535} {
		p := of(tup(cli, vip, 17, 7, 7), counted(4)...)
		put(p.Body, 4, told)
		if q := mustTurn(t, p, tup(cli, web, 17, 9, 9)); get(q.Body, 4) != told {
			t.Errorf("P23.1: the told length %d became %d", told, get(q.Body, 4))
		}
	}
	for _, shape := range []byte{0, 0x40, 0xf0} {
		p := of(tup(cli, vip, 6, 7, 7), counted(4)...)
		p.Body[12] = shape
		if q := mustTurn(t, p, tup(cli, web, 6, 9, 9)); q.Body[12] != shape {
			t.Errorf("P23.1: byte 12 became %x", q.Body[12])
		}
	}
}

// As ip4.Adjust makes it, word by word, in any order: the addresses and ports turned one by one come to the same.
func TestP23_1WordByWord(t *testing.T) {
	r := dice()
	for range 20000 {
		p := anyPacket(r)
		u, err := flow.Of(p)
		if err != api.OK {
			t.Fatal(err)
		}
		v := anyTuple(r, u.Proto)
		steps := []func(){func() { u.Src = v.Src }, func() { u.Dst = v.Dst }, func() { u.SrcPort = v.SrcPort }, func() { u.DstPort = v.DstPort }}
		if u.Proto == 1 {
			steps = append(steps[:2], func() { u.SrcPort, u.DstPort = v.SrcPort, v.SrcPort })
		}
		r.Shuffle(len(steps), func(i, k int) { steps[i], steps[k] = steps[k], steps[i] })
		q := p
		for _, step := range steps {
			step()
			q = mustTurn(t, q, u)
		}
		if at := mustTurn(t, p, v); !same(q, at) {
			t.Fatalf("P23.1: %+v: step by step %+v, at once %+v", p, q, at)
		}
	}
}

package nat

import (
	"bytes"
	"testing"

	"weft/api"
	"weft/icmp"
	"weft/ip4"
)

// inner is a head that a fault may quote.
func inner(proto byte) api.Head {
	return api.Head{TOS: 3, ID: 300, DF: true, TTL: 5, Proto: proto, Src: cli, Dst: web}
}

// ownTuple is the tuple of the tests' quoted packets.
func ownTuple(proto byte) api.Tuple {
	if proto == 1 {
		return tup(cli, web, 1, 7, 7)
	}
	return tup(cli, web, proto, 7, 9)
}

// front is the first n bytes of a message of that tuple.
func front(proto byte, n int) []byte {
	p := of(ownTuple(proto), counted(100)...)
	return p.Body[:n]
}

// toTuple is the tuple that the tests' quoted packets are turned to.
func toTuple(proto byte) api.Tuple {
	return tup(pub, far, proto, 40000, 40000)
}

// inside is the message of a fault: its header, and what is quoted by it.
func inside(t *testing.T, f api.Packet) (api.Control, api.Head, []byte) {
	t.Helper()
	c, err := icmp.Parse(f.Body)
	h, q, err2 := icmp.About(f)
	if err != api.OK || err2 != api.OK {
		t.Fatalf("P23.3: no fault: %+v, %d, %d", f, err, err2)
	}
	return c, h, q
}

// Each error of icmp.About, whatever the tuple is.
func TestP23_3AboutErrors(t *testing.T) {
	good := telling(3, 3, 0, inner(17), 30, front(17, 8))
	head := func(change func(p *api.Packet)) api.Packet {
		p := good
		p.Body = bytes.Clone(p.Body)
		change(&p)
		return p
	}
	// message is the fault with a message that is changed, and its sum made right.
	message := func(change func(c *api.Control)) api.Packet {
		c, _ := icmp.Parse(good.Body)
		change(&c)
		p := good
		p.Body, _ = icmp.Build(c)
		return p
	}
	quoted := func(at int, v byte) api.Packet {
		return message(func(c *api.Control) {
			c.Body[at] = v
			put(c.Body, 10, 0)
			put(c.Body, 10, sumOf(c.Body[:20]))
		})
	}
	for i, row := range []struct {
		p   api.Packet
		err api.Errno
	}{
		{head(func(p *api.Packet) { p.Head.Opts = hx("07") }), api.ErrOpts},
		{head(func(p *api.Packet) { p.Head.Off = 4 }), api.ErrOff},
		{head(func(p *api.Packet) { p.Body = make([]byte, 65516) }), api.ErrBig},
		{head(func(p *api.Packet) { p.Head.Proto = 17 }), api.ErrICMP},
		{head(func(p *api.Packet) { p.Head.Proto = 6 }), api.ErrICMP},
		{head(func(p *api.Packet) { p.Head.Off = 8 }), api.ErrICMP},
		{head(func(p *api.Packet) { p.Head.MF, p.Body = true, p.Body[:32] }), api.ErrICMP},
		{head(func(p *api.Packet) { p.Body = p.Body[:7] }), api.ErrShort},
		{head(func(p *api.Packet) { p.Body = nil }), api.ErrShort},
		{head(func(p *api.Packet) { p.Body[2]++ }), api.ErrSum},
		{head(func(p *api.Packet) { p.Body[30] ^= 1 }), api.ErrSum},
		{message(func(c *api.Control) { c.Type = 8 }), api.ErrNotEcho},
		{message(func(c *api.Control) { c.Type = 0 }), api.ErrNotEcho},
		{message(func(c *api.Control) { c.Body = nil }), api.ErrShort},
		{message(func(c *api.Control) { c.Body = c.Body[:19] }), api.ErrShort},
		{quoted(0, 0x55), api.ErrVersion},
		{quoted(0, 0x44), api.ErrHead},
		{quoted(0, 0x4f), api.ErrShort},
		{quoted(3, 19), api.ErrHead},
		{message(func(c *api.Control) { c.Body[10]++ }), api.ErrSum},
		{message(func(c *api.Control) { c.Body[12]++ }), api.ErrSum},
		{quoted(6, 0x80), api.ErrHead},
		{quoted(7, 0), api.OK},
		{quoted(6, 0x20), api.ErrOff}, // MF, and a told length of 30 behind the header
	} {
		if _, _, err := icmp.About(row.p); err != row.err {
			t.Fatalf("the test's own case %d: %d", i, err)
		}
		for _, u := range []api.Tuple{toTuple(17), toTuple(6), tup(cli, web, 1, 7, 8), {}} {
			if row.err != api.OK {
				refusesFault(t, row.p, u, row.err)
			}
		}
		if row.err == api.OK {
			mustTurnFault(t, row.p, vip, cli, toTuple(17))
		}
	}
	bad := inner(17)
	bad.Opts = hx("01010101")
	f := telling(3, 3, 0, bad, 30, front(17, 8))
	c, _ := icmp.Parse(f.Body)
	c.Body[23] = 7 // an option without its length
	put(c.Body, 10, 0)
	put(c.Body, 10, sumOf(c.Body[:24]))
	f.Body, _ = icmp.Build(c)
	refusesFault(t, f, toTuple(17), api.ErrOpts)
}

// Each type and code: faults of the types 3, 11 and 12 are turned, with any code; quenches and redirects are not, and others are no faults.
func TestP23_3TypesAndCodes(t *testing.T) {
	for typ := range 256 {
		for _, code := range []byte{0, 1, 3, 4, 13, 15, 16, 255} {
			f := telling(byte(typ), code, 0, inner(17), 30, front(17, 8))
			switch typ {
			case 3, 11, 12:
				g := mustTurnFault(t, f, vip, cli, toTuple(17))
				if c, _, _ := inside(t, g); c.Type != byte(typ) || c.Code != code {
					t.Errorf("P23.3: type %d, code %d became %d, %d", typ, code, c.Type, c.Code)
				}
			case 4, 5:
				refusesFault(t, f, toTuple(17), api.ErrMatch)
			default:
				refusesFault(t, f, toTuple(17), api.ErrNotEcho)
			}
		}
	}
}

// How much is quoted: no tuple below 8 bytes; the segment's sum from 18 bytes on.
func TestP23_3HowMuchIsQuoted(t *testing.T) {
	for _, proto := range protos {
		for n := range 41 {
			for _, opts := range areas {
				h := inner(proto)
				h.Opts = opts
				f := telling(11, 0, 0, h, 60, front(proto, n))
				if n < 8 {
					refusesFault(t, f, toTuple(proto), api.ErrMatch)
					continue
				}
				g := mustTurnFault(t, f, vip, cli, toTuple(proto))
				_, head, q := inside(t, g)
				want := h
				want.Src, want.Dst = pub, far
				if !sameHead(head, want) || len(q) != n || len(g.Body) != len(f.Body) {
					t.Errorf("P23.3: %d bytes of proto %d: %+v, %x", n, proto, head, q)
				}
				old := front(proto, n)
				for i := range q {
					number := proto == 1 && (i == 4 || i == 5) || proto != 1 && i < 4
					sum := i/2*2 == placeOfSum(proto) && n >= placeOfSum(proto)+2
					if !number && (q[i] == old[i]) == sum || number && q[i] != byte(toTuple(proto).SrcPort>>(8*(1-i%2))) {
						t.Errorf("P23.3: proto %d, %d bytes: byte %d became %x, was %x", proto, n, i, q[i], old[i])
					}
				}
			}
		}
	}
}

// The whole message quoted: its own sum stays right.
func TestP23_3SumsStayRight(t *testing.T) {
	for _, proto := range protos {
		p := of(ownTuple(proto), counted(31)...)
		p.Head.TTL = 1
		f := about(p, len(p.Body))
		g := mustTurnFault(t, f, vip, cli, toTuple(proto))
		_, h, q := inside(t, g)
		if back := (api.Packet{Head: h, Body: q}); wholeSum(back) != 0 || !same(back, mustTurn(t, p, toTuple(proto))) {
			t.Errorf("P23.3: proto %d: %+v", proto, back)
		}
	}
}

// What a told length cuts off is as it was, though it lies there: too few bytes for a tuple, or for a segment's sum.
func TestP23_3ToldLengths(t *testing.T) {
	for _, proto := range protos {
		for told := range 41 {
			for _, there := range []int{told, told + 1, told + 7, told + 20} {
				f := telling(12, 0, 0, inner(proto), told, front(proto, there))
				if told < 8 {
					refusesFault(t, f, toTuple(proto), api.ErrMatch)
					continue
				}
				g := mustTurnFault(t, f, vip, cli, toTuple(proto))
				if behind := 8 + 20 + told; !bytes.Equal(g.Body[behind:], f.Body[behind:]) || len(g.Body) != len(f.Body) {
					t.Errorf("P23.3: behind %d bytes of proto %d: %x became %x", told, proto, f.Body, g.Body)
				}
				if proto == 6 && (told < 18) != bytes.Equal(g.Body[8+20+4:], f.Body[8+20+4:]) {
					t.Errorf("P23.3: a segment's sum behind %d bytes: %x became %x", told, f.Body, g.Body)
				}
			}
		}
	}
}

// A quoted packet is a whole one or a first piece; later pieces have no tuple.
func TestP23_3QuotedPieces(t *testing.T) {
	for _, proto := range protos {
		h := inner(proto)
		for _, off := range []int{0, 8, 16, 65528 - 80} {
			for _, more := range []bool{false, true} {
				h.Off, h.MF = off, more
				f := telling(11, 1, 0, h, 64, front(proto, 20))
				if off > 0 {
					refusesFault(t, f, toTuple(proto), api.ErrMatch)
					continue
				}
				if _, got, _ := inside(t, mustTurnFault(t, f, vip, cli, toTuple(proto))); got.MF != more || got.Off != 0 {
					t.Errorf("P23.3: %+v became %+v", h, got)
				}
			}
		}
	}
}

// Each protocol that is quoted against each of the tuple.
func TestP23_3Protocols(t *testing.T) {
	for proto := range 256 {
		q := front(17, 24)
		q[0], q[1] = 8, 0
		f := telling(3, 1, 0, inner(byte(proto)), 64, q)
		for other := range 256 {
			u := toTuple(byte(other))
			if proto == other && bytes.Contains(protos, []byte{byte(proto)}) {
				mustTurnFault(t, f, vip, cli, u)
			} else {
				refusesFault(t, f, u, api.ErrMatch)
			}
		}
	}
}

// Of messages only echoes have a tuple, and one number.
func TestP23_3QuotedMessages(t *testing.T) {
	for typ := range 256 {
		for _, code := range []byte{0, 1, 8, 255} {
			q := front(1, 8)
			q[0], q[1] = byte(typ), code
			f := telling(11, 0, 0, inner(1), 64, q)
			for _, u := range []api.Tuple{toTuple(1), tup(pub, far, 1, 7, 8), tup(pub, far, 1, 0, 65535), tup(pub, far, 1, 0x0700, 0x0707)} {
				if (typ == 0 || typ == 8) && code == 0 && u.SrcPort == u.DstPort {
					mustTurnFault(t, f, vip, cli, u)
				} else {
					refusesFault(t, f, u, api.ErrMatch)
				}
			}
		}
	}
	for _, proto := range []byte{6, 17} {
		mustTurnFault(t, telling(11, 0, 0, inner(proto), 64, front(proto, 8)), vip, cli, tup(pub, far, proto, 7, 8))
	}
}

// The outer head but for its addresses, and the message's Rest, stay.
func TestP23_3WhatStays(t *testing.T) {
	for i, opts := range areas {
		for bit := range 32 {
			f := telling(3, 4, 1<<bit, inner(17), 64, front(17, 20))
			f.Head.Opts, f.Head.TOS, f.Head.ID, f.Head.TTL, f.Head.DF = opts, byte(i), uint16(uint64(3)<<bit), byte(bit), i%2 == 0
			g := mustTurnFault(t, f, vip, cli, toTuple(17))
			want := f.Head
			want.Src, want.Dst = vip, cli
			if c, _, _ := inside(t, g); !sameHead(g.Head, want) || c.Rest != 1<<bit || c.Type != 3 || c.Code != 4 {
				t.Errorf("P23.3: %+v became %+v, %+v", f.Head, g.Head, c)
			}
		}
	}
	// The addresses are any ones, those of the tuple too.
	f := telling(3, 4, 1450, inner(17), 64, front(17, 20))
	for _, ends := range [][2]api.Addr{{0, 0}, {1<<32 - 1, 1}, {cli, cli}, {f.Head.Src, f.Head.Dst}} {
		g := mustTurnFault(t, f, ends[0], ends[1], ownTuple(17))
		if g.Head.Src != ends[0] || g.Head.Dst != ends[1] || !bytes.Equal(g.Body, f.Body) {
			t.Errorf("P23.3: %+v became %+v", f, g)
		}
	}
}

// The quoted header's sum is made anew, and the message's: fields of 65535 that stand for 0 become 0.
func TestP23_3SumsAreMadeAnew(t *testing.T) {
	h := inner(17)
	h.ID = 0
	raw, _ := ip4.Build(api.Packet{Head: h, Body: make([]byte, 64)})
	h.ID = get(raw, 10) // the header's sum is 0 then
	f := telling(3, 3, 0, h, 64, front(17, 20))
	if get(f.Body, 18) != 0 {
		t.Fatalf("the test's own header has the sum %x", get(f.Body, 18))
	}
	put(f.Body, 18, 65535)
	put(f.Body, 4, 0)
	put(f.Body, 2, 0)
	put(f.Body, 4, sumOf(f.Body)) // Rest; the message's sum is 0 then
	put(f.Body, 2, 65535)
	g := mustTurnFault(t, f, vip, cli, ownTuple(17))
	want := bytes.Clone(f.Body)
	put(want, 18, 0)
	put(want, 2, 0)
	put(want, 2, sumOf(want))
	if !bytes.Equal(g.Body, want) {
		t.Errorf("P23.3: %x became %x, want %x", f.Body, g.Body, want)
	}
	put(f.Body, 18, 0)
	put(f.Body, 2, 0)
	put(f.Body, 4, 0)
	put(f.Body, 4, sumOf(f.Body))
	put(f.Body, 2, 65535)
	want = bytes.Clone(f.Body)
	put(want, 2, 0)
	if g := mustTurnFault(t, f, vip, cli, ownTuple(17)); !bytes.Equal(g.Body, want) {
		t.Errorf("P23.3: %x became %x, want %x", f.Body, g.Body, want)
	}
	// A quoted header that comes to the sum 0 has 0.
	u := ownTuple(17)
	for u.Src = range api.Addr(1 << 16) {
		if _, b := rawQuoted(f, u); get(b, 10) == 0 {
			break
		}
	}
	g, b := rawQuoted(f, u)
	if get(b, 10) != 0 || !same(g, mustTurnFault(t, f, vip, cli, u)) {
		t.Errorf("P23.3: the quoted header %x", b[:20])
	}
}

// rawQuoted is a fault turned, and what its message quotes.
func rawQuoted(f api.Packet, u api.Tuple) (api.Packet, []byte) {
	g, _ := TurnFault(f, vip, cli, u)
	return g, g.Body[8:]
}

// All fields of a quoted message's sum, which is turned over right or wrong; a datagram's 0 stays, and 65535 stands for it.
func TestP23_3AllFields(t *testing.T) {
	for _, proto := range protos {
		for f := range 1 << 16 {
			q := front(proto, 20)
			put(q, placeOfSum(proto), uint16(f))
			told := telling(3, 3, 0, inner(proto), 64, q)
			g, err := TurnFault(told, vip, cli, toTuple(proto))
			old, next := six(ownTuple(proto)), six(toTuple(proto))
			if proto == 1 {
				old, next = old[4:5], next[4:5]
			}
			want := overTurned(uint16(f), old, next)
			if proto == 17 && f == 0 {
				want = 0
			} else if proto == 17 && want == 0 {
				want = 65535
			}
			if got := get(g.Body, 28+placeOfSum(proto)); err != api.OK || got != want {
				t.Fatalf("P23.3: proto %d: the field %d became %d, want %d", proto, f, got, want)
			}
		}
	}
}

// Under its own tuple a quoted message stays, its sum too.
func TestP23_3SameTuple(t *testing.T) {
	for _, proto := range protos {
		for _, f := range []uint16{0, 1, 65534, 65535} {
			for _, n := range []int{8, 17, 18, 20, 40} {
				q := front(proto, n)
				if n >= placeOfSum(proto)+2 {
					put(q, placeOfSum(proto), f)
				}
				told := telling(3, 3, 0, inner(proto), 64, q)
				if g := mustTurnFault(t, told, far, pub, ownTuple(proto)); !same(told, g) {
					t.Errorf("P23.3: %+v became %+v", told, g)
				}
			}
		}
	}
}

// Of an echo that is quoted the sum is turned over by the number alone: no rule about zeros, and the addresses are no part of it.
func TestP23_3QuotedEchoes(t *testing.T) {
	q := hx("0000 fffa 0005 0000")
	f := telling(11, 0, 0, inner(1), 8, q)
	_, _, got := inside(t, mustTurnFault(t, f, vip, cli, tup(pub, far, 1, 0, 0)))
	if !bytes.Equal(got, make([]byte, 8)) {
		t.Errorf("P23.3: %x became %x", q, got)
	}
	_, _, got = inside(t, mustTurnFault(t, f, vip, cli, tup(pub, far, 1, 5, 5)))
	if !bytes.Equal(got, q) {
		t.Errorf("P23.3: %x became %x", q, got)
	}
	_, _, got = inside(t, mustTurnFault(t, f, vip, cli, tup(cli, web, 1, 4, 4)))
	if !bytes.Equal(got, hx("0000 fffb 0004 0000")) {
		t.Errorf("P23.3: %x became %x", q, got)
	}
}

// Several faults at once: icmp.About's errors come first.
func TestP23_3Order(t *testing.T) {
	f := telling(4, 0, 0, inner(17), 64, front(17, 7))
	refusesFault(t, f, toTuple(6), api.ErrMatch)
	g := f
	g.Body = bytes.Clone(f.Body)
	g.Body[2]++
	refusesFault(t, g, toTuple(6), api.ErrSum)
	g = f
	g.Head.Off = 4
	refusesFault(t, g, toTuple(6), api.ErrOff)
	c, _ := icmp.Parse(f.Body)
	c.Body[10]++
	g = f
	g.Body, _ = icmp.Build(c)
	refusesFault(t, g, toTuple(6), api.ErrSum)
}

// Messages as long as can be.
func TestP23_3LongMessages(t *testing.T) {
	f := telling(3, 3, 0, inner(17), 65515, front(17, 8))
	c, _ := icmp.Parse(f.Body)
	for _, n := range []int{65507 - 28, 65507 - 29} {
		long := c
		long.Body = append(bytes.Clone(c.Body), counted(n)...)
		f.Body, _ = icmp.Build(long)
		if g := mustTurnFault(t, f, vip, cli, toTuple(17)); !bytes.Equal(g.Body[36:], f.Body[36:]) {
			t.Error("P23.3: what lies behind has changed")
		}
	}
	c.Body = append(c.Body, counted(65508-28)...)
	if _, err := icmp.Build(c); err != api.ErrBig {
		t.Errorf("the test's own message: %d", err)
	}
}

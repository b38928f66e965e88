package flow

import (
	"bytes"
	"testing"

	"weft/api"
	"weft/icmp"
)

// found holds Look against an answer that is said, and against the model.
func (b both) found(p api.Packet, kind int, theirs bool, there api.Tuple) {
	b.t.Helper()
	k := b.look(p)
	if k.Kind != kind || k.Theirs != theirs || k.Flow.There != there {
		b.t.Errorf("P21.3: Look(%v) = %v, want kind %d, theirs %v, the flow of %v", p, k, kind, theirs, there)
	}
	if kind == api.TNew || kind == api.TNone {
		if k != (api.Track{Kind: kind}) {
			b.t.Errorf("P21.3: Look(%v) = %v beside kind %d", p, k, kind)
		}
		return
	}
	for _, f := range b.m.flows {
		if f == k.Flow {
			return
		}
	}
	b.t.Errorf("P21.3: Look(%v) = %v, which is not held", p, k)
}

func TestP21_3ThereAndBack(t *testing.T) {
	protos := []byte{1, 6, 17}
	for _, proto := range protos {
		u := tup(hostA, hostB, proto, 7, 7)
		b := begun(t, 3)
		b.found(of(u, 2), api.TNew, false, api.Tuple{})
		b.opens(5, u)
		b.found(of(u, 2), api.TThere, false, u)
		b.found(of(turned(u), 18), api.TBack, false, u)
		others := []api.Tuple{tup(hostA+1, hostB, proto, 7, 7), tup(hostA, hostB+1, proto, 7, 7), tup(hostA, hostB, proto, 8, 8), tup(hostB, hostB, proto, 7, 7), tup(hostA, hostA, proto, 7, 7)}
		if proto != 1 {
			others = append(others, tup(hostA, hostB, proto, 7, 8), tup(hostA, hostB, proto, 8, 7), tup(hostB, hostA, proto, 7, 8), tup(hostB, hostA, proto, 8, 7))
		}
		for _, other := range protos {
			if other != proto {
				others = append(others, tup(hostA, hostB, other, 7, 7), tup(hostB, hostA, other, 7, 7))
			}
		}
		for _, v := range others {
			b.found(of(v, 2), api.TNew, false, api.Tuple{})
		}
		b.check()
	}
}

// A back that is another one than the tuple turned round.
func TestP21_3AnotherBack(t *testing.T) {
	for _, proto := range []byte{1, 6, 17} {
		u, back := tup(hostA, hostB, proto, 7, 7), tup(hostD, hostC, proto, 9, 9)
		b := begun(t, 3)
		b.open(u, back, first(u), 0)
		b.found(of(u, 2), api.TThere, false, u)
		b.found(of(back, 2), api.TBack, false, u)
		b.found(of(turned(u), 2), api.TNew, false, api.Tuple{})
		b.found(of(turned(back), 2), api.TNew, false, api.Tuple{})
		// What is turned round may be a flow of its own, there and back.
		b.open(turned(u), turned(back), first(turned(u)), 0)
		b.found(of(turned(u), 2), api.TThere, false, turned(u))
		b.found(of(turned(back), 2), api.TBack, false, turned(u))
		b.found(of(back, 2), api.TBack, false, u)
		b.check()
	}
}

// Of two flows between the same ends each packet is of its own, there and back.
func TestP21_3AmongMany(t *testing.T) {
	b := begun(t, 100).opens(0, manyTuples()...)
	for _, u := range manyTuples() {
		b.found(of(u, 2), api.TThere, false, u)
		b.found(of(turned(u), 2), api.TBack, false, u)
	}
}

// A segment of no flow is new, whatever its flags; and one of a flow is the flow's, whatever its flags.
func TestP21_3AnyFlags(t *testing.T) {
	u := tup(hostA, hostB, 6, 5, 80)
	b := begun(t, 1).opens(0, u)
	for flags := range 256 {
		b.found(of(tup(hostA, hostB, 6, 6, 80), byte(flags)), api.TNew, false, api.Tuple{})
		b.found(of(u, byte(flags)), api.TThere, false, u)
		b.found(of(turned(u), byte(flags)), api.TBack, false, u)
	}
}

// A request and a reply one way have one tuple.
func TestP21_3Echoes(t *testing.T) {
	u := tup(hostA, hostB, 1, 7, 7)
	b := begun(t, 1).opens(0, u)
	b.found(ping(hostA, hostB, 7), api.TThere, false, u)
	b.found(pong(hostA, hostB, 7), api.TThere, false, u)
	b.found(ping(hostB, hostA, 7), api.TBack, false, u)
	b.found(pong(hostB, hostA, 7), api.TBack, false, u)
	b.found(ping(hostA, hostB, 8), api.TNew, false, api.Tuple{})
	b.found(pong(hostB, hostA, 8), api.TNew, false, api.Tuple{})
}

// A first piece is of its flow, with MF and without.
func TestP21_3Pieces(t *testing.T) {
	u := tup(hostA, hostB, 17, 5, 53)
	b := begun(t, 1).opens(0, u)
	p := of(u, 0)
	p.Head.MF = true
	b.found(p, api.TThere, false, u)
	p.Head.Off = 8
	b.found(p, api.TNone, false, api.Tuple{})
	p.Head.MF = false
	b.found(p, api.TNone, false, api.Tuple{})
}

// What Of refuses and is no fault is of nothing, though its ends are a flow's.
func TestP21_3Refused(t *testing.T) {
	b := begun(t, 3).opens(0, tup(hostA, hostB, 17, 5, 53), tup(hostA, hostB, 6, 5, 53), tup(hostA, hostB, 1, 5, 5))
	seen := map[api.Errno]int{}
	for _, p := range []api.Packet{udp(hostA, hostB, 5, 53), tcp(hostA, hostB, 5, 53, 2), ping(hostA, hostB, 5)} {
		for _, spoil := range []func(p *api.Packet){
			func(p *api.Packet) { p.Head.Opts = []byte{1} },
			func(p *api.Packet) { p.Head.Off = 4 },
			func(p *api.Packet) { p.Head.Off = 8 },
			func(p *api.Packet) { p.Body = append(p.Body, make([]byte, 65516-len(p.Body))...) },
			func(p *api.Packet) { p.Body = p.Body[:7] },
			func(p *api.Packet) { p.Body = nil },
			func(p *api.Packet) { p.Head.Proto = 47 },
			func(p *api.Packet) { p.Head.Proto, p.Body[0] = 1, 13 },
			func(p *api.Packet) { p.Head.Proto, p.Body[1] = 1, 1 },
		} {
			q := p
			q.Body = bytes.Clone(p.Body)
			spoil(&q)
			_, err := Of(q)
			seen[err]++
			b.found(q, api.TNone, false, api.Tuple{})
		}
	}
	for _, err := range []api.Errno{api.ErrOpts, api.ErrOff, api.ErrPiece, api.ErrBig, api.ErrShort, api.ErrTuple} {
		if seen[err] == 0 {
			t.Errorf("the test's own packets have no error %d", err)
		}
	}
	b.check()
}

// Faults of all kinds about packets there and back, whoever tells of them.
func TestP21_3Faults(t *testing.T) {
	for _, proto := range []byte{1, 6, 17} {
		u, back := tup(hostA, hostB, proto, 7, 7), tup(hostD, hostC, proto, 9, 9)
		ordinary, other := begun(t, 1).opens(3, u), begun(t, 1)
		other.open(u, back, first(u), 3)
		for _, from := range []api.Addr{hostA, hostB, hostC, hostD, quad(10, 5, 1, 1)} {
			for _, kind := range [][2]byte{{3, 0}, {3, 1}, {3, 3}, {3, 4}, {3, 15}, {11, 0}, {11, 1}, {12, 0}, {12, 2}} {
				speaks := func(v api.Tuple) api.Packet { return about(t, of(v, 2), kind[0], kind[1], from) }
				ordinary.found(speaks(u), api.TAbout, false, u)
				ordinary.found(speaks(turned(u)), api.TAbout, true, u)
				ordinary.found(speaks(tup(hostA, hostB, proto, 8, 8)), api.TNone, false, api.Tuple{})
				// Here a packet there comes to others under another tuple, and what they tell of is that one.
				other.found(speaks(turned(back)), api.TAbout, false, u)
				other.found(speaks(turned(u)), api.TAbout, true, u)
				other.found(speaks(u), api.TNone, false, api.Tuple{})
				other.found(speaks(back), api.TNone, false, api.Tuple{})
			}
		}
		ordinary.check()
		other.check()
	}
}

// Which control messages are faults: types 3, 4, 5, 11 and 12 of any code, whatever Rest says.
func TestP21_3EachType(t *testing.T) {
	u := tup(hostA, hostB, 17, 5, 53)
	b := begun(t, 1).opens(0, u)
	quoted := of(turned(u), 0)
	for typ := range 256 {
		for _, code := range []byte{0, 1, 4, 16, 255} {
			p := telling(byte(typ), code, quoted.Head, quoted.Body...)
			switch {
			case typ == 3 || typ == 4 || typ == 5 || typ == 11 || typ == 12:
				b.found(p, api.TAbout, true, u)
			case code == 0 && (typ == 0 || typ == 8):
				b.found(p, api.TNew, false, api.Tuple{})
			default:
				b.found(p, api.TNone, false, api.Tuple{})
			}
		}
	}
}

// How much is quoted: 8 bytes behind the head are enough, of segments too; 7 are not.
func TestP21_3HowMuchIsQuoted(t *testing.T) {
	for _, proto := range []byte{1, 6, 17} {
		u := tup(hostA, hostB, proto, 7, 7)
		b := begun(t, 1).opens(0, u)
		q := of(turned(u), 0x12)
		q.Body = append(q.Body, run(30)...)
		for _, opts := range [][]byte{nil, {1, 1, 1, 0}, bytes.Repeat([]byte{1}, 40)} {
			q.Head.Opts = opts
			for n := range 40 {
				p := telling(11, 0, q.Head, q.Body[:min(n, len(q.Body))]...)
				if n < 8 {
					b.found(p, api.TNone, false, api.Tuple{})
				} else {
					b.found(p, api.TAbout, true, u)
				}
			}
		}
	}
}

// The quoted packet's own length ends what counts of it: bytes behind are none of its.
func TestP21_3QuotedLength(t *testing.T) {
	u := tup(hostA, hostB, 17, 5, 53)
	b := begun(t, 1).opens(0, u)
	for n := range 12 {
		q := bare(turned(u), withPorts(53, 5, run(8)...)[:n]...)
		f := about(t, q, 3, 3, hostC)
		c, _ := icmp.Parse(f.Body)
		c.Body = append(c.Body, withPorts(53, 5, run(8)...)[min(n, 8):]...)
		f.Body, _ = icmp.Build(c)
		if n < 8 {
			b.found(f, api.TNone, false, api.Tuple{})
		} else {
			b.found(f, api.TAbout, true, u)
		}
	}
}

// A quoted later piece tells nothing, a quoted first piece does.
func TestP21_3QuotedPieces(t *testing.T) {
	for _, proto := range []byte{1, 6, 17} {
		u := tup(hostA, hostB, proto, 7, 7)
		b := begun(t, 1).opens(0, u)
		for _, off := range []int{0, 8, 16, 65000, 65464} {
			for _, more := range []bool{false, true} {
				q := of(turned(u), 2)
				q.Head.Off, q.Head.MF = off, more
				if off == 0 {
					b.found(telling(11, 1, q.Head, q.Body...), api.TAbout, true, u)
				} else {
					b.found(telling(11, 1, q.Head, q.Body...), api.TNone, false, api.Tuple{})
				}
			}
		}
	}
}

// Faults that quote control messages: echoes tell a tuple, others none.
func TestP21_3QuotedMessages(t *testing.T) {
	u := tup(hostA, hostB, 1, 0x0102, 0x0102)
	b := begun(t, 1).opens(0, u)
	for typ := range 256 {
		for _, code := range []byte{0, 1, 8, 255} {
			q := control(hostB, hostA, byte(typ), code, 0x0102)
			p := telling(3, 0, q.Head, q.Body...)
			if code == 0 && (typ == 0 || typ == 8) {
				b.found(p, api.TAbout, true, u)
			} else {
				b.found(p, api.TNone, false, api.Tuple{})
			}
		}
	}
	q := ping(hostB, hostA, 0x0201)
	b.found(telling(3, 0, q.Head, q.Body...), api.TNone, false, api.Tuple{})
}

// Faults that quote other protocols, though the bytes would be a flow's.
func TestP21_3QuotedProtocols(t *testing.T) {
	b := begun(t, 3).opens(0, tup(hostA, hostB, 17, 0, 53), tup(hostA, hostB, 6, 0, 53), tup(hostA, hostB, 1, 5, 5))
	for proto := range 256 {
		q := bare(tup(hostB, hostA, byte(proto), 0, 0), 0, 53, 0, 0, 0, 5, 0, 0)
		p := telling(3, 2, q.Head, q.Body...)
		switch proto {
		case 6, 17:
			b.found(p, api.TAbout, true, tup(hostA, hostB, byte(proto), 0, 53))
		default: // of protocol 1 it is a message of code 53
			b.found(p, api.TNone, false, api.Tuple{})
		}
	}
}

// Of the quoted packet each field counts, turned round.
func TestP21_3QuotedFields(t *testing.T) {
	u := tup(hostA, hostB, 17, 0x0102, 0x0304)
	b := begun(t, 1).opens(0, u)
	r := turned(u)
	b.found(telling(3, 3, of(r, 0).Head, of(r, 0).Body...), api.TAbout, true, u)
	b.found(telling(3, 3, of(u, 0).Head, of(u, 0).Body...), api.TAbout, false, u)
	for _, v := range []api.Tuple{
		tup(hostB+1, hostA, 17, 0x0304, 0x0102), tup(hostB, hostA+1, 17, 0x0304, 0x0102), tup(hostB, hostA, 6, 0x0304, 0x0102), tup(hostB, hostA, 17, 0x0305, 0x0102),
		tup(hostB, hostA, 17, 0x0304, 0x0103), tup(hostB, hostA, 17, 0x0102, 0x0304), tup(hostB, hostA, 17, 0x0403, 0x0201), tup(hostA, hostB, 17, 0x0304, 0x0102),
	} {
		b.found(telling(3, 3, of(v, 0).Head, of(v, 0).Body...), api.TNone, false, api.Tuple{})
	}
}

// Faults that icmp.About refuses are of nothing.
func TestP21_3FaultsThatAreNone(t *testing.T) {
	u := tup(hostA, hostB, 17, 5, 53)
	b := begun(t, 1).opens(0, u)
	good := about(t, of(turned(u), 0), 3, 3, hostC)
	b.found(good, api.TAbout, true, u)
	for i, spoil := range []func(p *api.Packet){
		func(p *api.Packet) { p.Head.Opts = []byte{1} },
		func(p *api.Packet) { p.Head.Off = 4 },
		func(p *api.Packet) { p.Head.Off = 8 },
		func(p *api.Packet) { p.Head.MF, p.Body = true, append(p.Body, make([]byte, 4)...) }, // a multiple of 8, the sum right
		func(p *api.Packet) { p.Head.Proto = 47 },
		func(p *api.Packet) { p.Body[2] ^= 1 },
		func(p *api.Packet) { p.Body[len(p.Body)-1] ^= 1 },
		func(p *api.Packet) { p.Body = p.Body[:7] },
		func(p *api.Packet) { p.Body, _ = icmp.Build(api.Control{Type: 3}) },
		func(p *api.Packet) { p.Body, _ = icmp.Build(api.Control{Type: 3, Body: p.Body[8:27]}) },
		func(p *api.Packet) { p.Body[8], p.Body[4] = 0x55, 0 }, // no version 4
	} {
		p := good
		p.Body = bytes.Clone(good.Body)
		spoil(&p)
		if _, _, err := icmp.About(p); err == api.OK {
			if _, b, _ := icmp.About(p); len(b) >= 8 {
				t.Errorf("the test's own fault %d is one", i)
			}
		}
		b.found(p, api.TNone, false, api.Tuple{})
	}
	// A head with any time to live is quoted well.
	q := of(turned(u), 0)
	q.Head.TTL = 0
	b.found(telling(11, 0, q.Head, q.Body...), api.TAbout, true, u)
	b.check()
}

// Only a packet that Of refuses is asked for what it quotes: an echo that carries a fault's bytes is an echo.
func TestP21_3EchoesQuoteNothing(t *testing.T) {
	u := tup(hostA, hostB, 17, 5, 53)
	b := begun(t, 2).opens(0, u)
	f := about(t, of(turned(u), 0), 3, 3, hostC)
	c, _ := icmp.Parse(f.Body)
	for _, typ := range []byte{0, 8} {
		c.Type, c.Code, c.Rest = typ, 0, 9<<16
		f.Body, _ = icmp.Build(c)
		b.found(f, api.TNew, false, api.Tuple{})
	}
	v := tup(f.Head.Src, f.Head.Dst, 1, 9, 9)
	b.opens(0, v).found(f, api.TThere, false, v)
}

// Look changes nothing, and tells the flow as it is.
func TestP21_3FlowAsItIs(t *testing.T) {
	u := tup(hostA, hostB, 6, 5, 80)
	b := begun(t, 1).opens(7, u)
	for i, flags := range []byte{18, 16, 17, 16, 1, 16, 4} {
		p := of(u, flags)
		if flags == 18 || flags == 1 {
			p = of(turned(u), flags)
		}
		f, _ := b.move(p, int64(100*i))
		for range 2 {
			if k := b.look(of(u, 4)); k != (api.Track{Kind: api.TThere, Flow: f}) {
				t.Errorf("P21.3: Look = %v, want %v", k, f)
			}
			if k := b.look(of(turned(u), 4)); k != (api.Track{Kind: api.TBack, Flow: f}) {
				t.Errorf("P21.3: Look = %v, want %v", k, f)
			}
			if k := b.look(about(t, of(u, 4), 3, 1, hostC)); k != (api.Track{Kind: api.TAbout, Flow: f}) {
				t.Errorf("P21.3: Look = %v, want %v", k, f)
			}
			if k := b.look(about(t, of(turned(u), 4), 3, 1, hostC)); k != (api.Track{Kind: api.TAbout, Flow: f, Theirs: true}) {
				t.Errorf("P21.3: Look = %v, want %v", k, f)
			}
		}
		b.check()
	}
}

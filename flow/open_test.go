package flow

import (
	"slices"
	"testing"

	"weft/api"
)

// opensNot holds that Open answers an error, and that nothing changes beside it.
func (b both) opensNot(want api.Errno, there, back api.Tuple, p api.Packet, now int64) {
	b.t.Helper()
	before, last := b.x.List(), b.x.last
	if err := b.open(there, back, p, now); err != want {
		b.t.Errorf("P21.4: Open(%v, %v, %v, %d) = %d, want %d", there, back, p, now, err, want)
	}
	if !slices.Equal(b.x.List(), before) || b.x.last != last {
		b.t.Errorf("P0.2: refused, and %v became %v", before, b.x.List())
	}
	b.check()
}

func TestP21_4Opened(t *testing.T) {
	for _, row := range []struct {
		proto byte
		state int
		span  int64
	}{{1, api.FThere, 30}, {17, api.FThere, 30}, {6, api.FSyn, 120}} {
		u := tup(hostA, hostB, row.proto, 7, 7)
		for _, now := range []int64{least, least + 1, -1000, -row.span, -1, 0, 1, 100, most - row.span - 1, most - row.span, most - row.span + 1, most - 1, most} {
			b := begun(t, 1).opens(now, u)
			until := int64(most)
			if now < most-row.span {
				until = now + row.span
			}
			if got, want := b.list(), []api.Flow{{There: u, Back: turned(u), State: row.state, Until: until}}; !slices.Equal(got, want) {
				t.Errorf("P21.4: List = %v, want %v", got, want)
			}
			b.check()
		}
	}
}

// p may be any packet that has the tuple there.
func TestP21_4AnyFirstPacket(t *testing.T) {
	for _, proto := range []byte{1, 6, 17} {
		u := tup(hostA, hostB, proto, 7, 7)
		for i := range 4 {
			p := first(u)
			p.Body = append(p.Body, run(24-len(p.Body))...)
			p.Head.MF, p.Head.TTL = i&1 != 0, byte(i)
			if i&2 != 0 {
				p.Head.Opts = []byte{1, 1, 1, 0}
			}
			b := begun(t, 1)
			if err := b.open(u, turned(u), p, 0); err != api.OK {
				t.Errorf("P21.4: Open of %v = %d", p, err)
			}
			b.check()
		}
	}
}

// The packet's tuple is not there: in each field, and turned round.
func TestP21_4NotThere(t *testing.T) {
	for _, proto := range []byte{1, 6, 17} {
		u := tup(hostA, hostB, proto, 7, 7)
		b := begun(t, 3)
		for _, v := range []api.Tuple{
			tup(hostA+1, hostB, proto, 7, 7), tup(hostA, hostB+1, proto, 7, 7), tup(hostA, hostB, proto, 8, 7), tup(hostA, hostB, proto, 7, 8), tup(hostA, hostB, proto+1, 7, 7), turned(u), {},
		} {
			b.opensNot(api.ErrTuple, v, turned(v), first(u), 0)
			b.opensNot(api.ErrTuple, v, turned(u), first(u), 0)
			b.opensNot(api.ErrTuple, v, u, first(u), 0)
		}
	}
}

// What Of refuses opens nothing, whatever there is said to be.
func TestP21_4PacketsWithoutTuple(t *testing.T) {
	b := begun(t, 3)
	for _, proto := range []byte{1, 6, 17} {
		u := tup(hostA, hostB, proto, 7, 7)
		for i := range 6 {
			p := first(u)
			switch i {
			case 0:
				p.Head.Opts = []byte{7}
			case 1:
				p.Head.Off = 4
			case 2:
				p.Body = append(p.Body, make([]byte, 65520)...)
			case 3:
				p.Head.Off = 8
			case 4:
				p.Body = p.Body[:7]
			case 5:
				p.Head.Proto = 47
			}
			for _, v := range []api.Tuple{u, {}, tup(hostA, hostB, 47, 7, 7), tup(hostA, hostB, 47, 0, 0), tup(hostA, hostB, proto, 0, 0)} {
				b.opensNot(api.ErrTuple, v, turned(v), p, 0)
				b.opensNot(api.ErrTuple, v, tup(hostC, hostD, v.Proto, 1, 2), p, 0)
			}
		}
	}
	f := about(t, udp(hostA, hostB, 5, 53), 3, 3, hostC)
	b.opensNot(api.ErrTuple, api.Tuple{}, api.Tuple{}, f, 0)
	b.opensNot(api.ErrTuple, tup(hostC, hostA, 1, 0, 0), tup(hostA, hostC, 1, 0, 0), f, 0)
	b.opensNot(api.ErrTuple, tup(hostB, hostA, 17, 53, 5), tup(hostA, hostB, 17, 5, 53), f, 0)
	for typ := range 256 {
		for _, code := range []byte{0, 1, 255} {
			if typ != 8 || code != 0 {
				u := tup(hostA, hostB, 1, 7, 7)
				b.opensNot(api.ErrTuple, u, turned(u), control(hostA, hostB, byte(typ), code, 7), 0)
			}
		}
	}
}

// Which back may be: any tuple of the protocol but there.
func TestP21_4Backs(t *testing.T) {
	for _, proto := range []byte{1, 6, 17} {
		u := tup(hostA, hostB, proto, 7, 7)
		b := begun(t, 1)
		b.opensNot(api.ErrTuple, u, u, first(u), 0)
		for other := range 256 {
			v := turned(u)
			v.Proto = byte(other)
			if v.Proto != proto {
				b.opensNot(api.ErrTuple, u, v, first(u), 0)
			}
		}
		for _, v := range []api.Tuple{
			tup(hostA, hostB, proto, 7, 8), tup(hostA, hostB, proto, 8, 7), tup(hostA, hostB+1, proto, 7, 7), tup(hostA+1, hostB, proto, 7, 7), tup(0, 0, proto, 0, 0),
			turned(u), tup(hostD, hostC, proto, 9, 9), tup(hostA, hostA, proto, 7, 7), tup(1<<32-1, 1<<32-1, proto, 65535, 65535), tup(hostD, hostC, proto, 1, 2),
		} {
			b := begun(t, 1)
			if err := b.open(u, v, first(u), 3); err != api.OK {
				t.Errorf("P21.4: Open with back %v = %d", v, err)
			}
			if f := b.list()[0]; f.There != u || f.Back != v {
				t.Errorf("P21.4: List = %v", f)
			}
			b.check()
		}
	}
}

// Of a tuple whose ends and ports are the same, turned round is itself.
func TestP21_4ToItself(t *testing.T) {
	for _, proto := range []byte{1, 6, 17} {
		u := tup(hostA, hostA, proto, 7, 7)
		begun(t, 1).opensNot(api.ErrTuple, u, turned(u), first(u), 0)
	}
}

// Each set of flags: only a SYN opens, whatever the bits say that are not looked at.
func TestP21_4Flags(t *testing.T) {
	u := tup(hostA, hostB, 6, 5, 80)
	for flags := range 256 {
		b := begun(t, 1)
		isSYN := flags&0x02 != 0 && flags&0x01 == 0 && flags&0x04 == 0 && flags&0x10 == 0
		if isSYN {
			if err := b.open(u, turned(u), of(u, byte(flags)), 0); err != api.OK {
				t.Errorf("P21.4: flags %x: %d", flags, err)
			}
			b.check()
		} else {
			b.opensNot(api.ErrTuple, u, turned(u), of(u, byte(flags)), 0)
		}
	}
}

// The flags lie in byte 13 alone.
func TestP21_4FlagsPlace(t *testing.T) {
	u := tup(hostA, hostB, 6, 5, 80)
	for at := 4; at < 20; at++ {
		p := bare(u, append(withPorts(5, 80), make([]byte, 16)...)...)
		p.Body[at] = 2
		b := begun(t, 1)
		if at != 13 {
			b.opensNot(api.ErrTuple, u, turned(u), p, 0)
		} else if err := b.open(u, turned(u), p, 0); err != api.OK {
			t.Errorf("P21.4: %d", err)
		}
	}
}

func TestP21_4Replies(t *testing.T) {
	u := tup(hostA, hostB, 1, 7, 7)
	b := begun(t, 1)
	b.opensNot(api.ErrTuple, u, turned(u), pong(hostA, hostB, 7), 0)
	b.opensNot(api.ErrTuple, turned(u), u, pong(hostB, hostA, 7), 0)
	b.opens(0, u)
}

// There or back is one of the two tuples of a flow that is held: each of the four ways.
func TestP21_4Dup(t *testing.T) {
	for _, proto := range []byte{1, 6, 17} {
		u, back := tup(hostA, hostB, proto, 7, 7), tup(hostD, hostC, proto, 9, 9)
		free, freeToo := tup(hostC, hostA, proto, 3, 3), tup(hostB, hostD, proto, 4, 4)
		for _, limit := range []int{1, 2, 3} { // full or not, it is a duplicate
			b := begun(t, limit)
			b.open(u, back, first(u), 0)
			for _, pair := range [][2]api.Tuple{{u, back}, {back, u}, {u, free}, {back, free}, {free, u}, {free, back}, {u, turned(u)}, {back, turned(back)}, {turned(u), u}, {turned(back), back}} {
				b.opensNot(api.ErrDup, pair[0], pair[1], first(pair[0]), 1)
			}
			if limit == 1 {
				b.opensNot(api.ErrFull, free, freeToo, first(free), 1)
				b.opensNot(api.ErrFull, turned(u), turned(back), first(turned(u)), 1)
				continue
			}
			if err := b.open(turned(u), turned(back), first(turned(u)), 1); err != api.OK {
				t.Errorf("P21.4: of two tuples that are not held: %d", err)
			}
			b.opensNot(api.ErrDup, free, turned(back), first(free), 1)
			b.opensNot(api.ErrDup, u, turned(back), first(u), 1) // one of each flow
			b.check()
		}
	}
}

// The same numbers under another protocol are another tuple.
func TestP21_4OtherProtocols(t *testing.T) {
	b := begun(t, 6)
	for _, proto := range []byte{1, 6, 17} {
		b.opens(0, tup(hostA, hostB, proto, 7, 7), tup(hostA, hostB, proto, 8, 8))
	}
	b.check()
}

// Of several errors at once the first that is named.
func TestP21_4ErrorsOrder(t *testing.T) {
	for _, proto := range []byte{1, 6, 17} {
		u := tup(hostA, hostB, proto, 7, 7)
		free := tup(hostC, hostB, proto, 9, 9)
		for _, limit := range []int{1, 2} {
			b := begun(t, limit).opens(0, u)
			wrong := []api.Packet{bare(u), of(turned(u), 2), udp(hostD, hostD, 1, 2)}
			if proto == 6 {
				wrong = append(wrong, of(u, 18), of(u, 0), of(u, 3))
			}
			if proto == 1 {
				wrong = append(wrong, pong(hostA, hostB, 7))
			}
			for _, p := range wrong {
				b.opensNot(api.ErrTuple, u, turned(u), p, 0)
				b.opensNot(api.ErrTuple, u, free, p, 0)
			}
			other := turned(u)
			other.Proto++
			b.opensNot(api.ErrTuple, u, u, first(u), 0)
			b.opensNot(api.ErrTuple, u, other, first(u), 0)
			b.opensNot(api.ErrTuple, free, free, first(free), 0)
			b.opensNot(api.ErrTuple, free, other, first(free), 0)
			b.opensNot(api.ErrDup, u, free, first(u), 0)
			b.opensNot(api.ErrDup, free, u, first(free), 0)
		}
		begun(t, 1).opens(0, u).opensNot(api.ErrFull, free, turned(free), first(free), 0)
	}
}

package frag

import (
	"slices"
	"testing"

	"weft/api"
)

func TestP5_2New(t *testing.T) {
	for _, room := range []int{least, -256, -1, 0, 1, 2, 255, 256, 257, 1<<32 + 1, most} {
		for _, life := range []int64{least, -1, 0, 1, 2, 1<<40 - 1, 1 << 40, 1<<40 + 1, most} {
			a, e := New(room, life)
			if room < 1 || room > 256 || life < 1 || life > 1<<40 {
				if a != nil || e != api.ErrArg {
					t.Errorf("P5.2: New(%d, %d) = %v, %d, want nil, ErrArg", room, life, a, e)
				}
			} else if a == nil || e != api.OK || len(a.Held()) != 0 || a.Tick(0) != 0 {
				t.Errorf("P5.2: New(%d, %d) = %v, %d, want an empty one", room, life, a, e)
			}
		}
	}
}

func TestP5_2RoomIsUsedUp(t *testing.T) {
	for _, room := range []int{1, 2, 3, 255, 256} {
		p := newPair(t, room, 5)
		for id := range room {
			p.more(withID(packet(8, true, run(0, 8)), uint16(id)))
		}
		if n := len(p.real.Held()); n != room {
			t.Errorf("P5.2: %d of %d are held", n, room)
		}
		p.more(withID(packet(8, true, run(0, 8)), 1000))
		list := p.real.Held()
		if len(list) != room || list[room-1].ID != 1000 || room > 1 && list[0].ID != 1 {
			t.Errorf("P5.2: room %d, one more: %v", room, list)
		}
	}
}

func TestP5_2BeginsAtTickZero(t *testing.T) {
	p := newPair(t, 1, 1<<40)
	p.more(withTTL(packet(8, true, run(0, 8)), 200))
	p.holds(hold(7, 8, 200))
}

func TestP5_2TwoShareNothing(t *testing.T) {
	x, y := newPair(t, 1, 5), newPair(t, 2, 50)
	x.more(packet(8, false, run(1, 8)))
	y.more(packet(0, true, run(2, 8)))
	y.more(withID(packet(8, false, run(3, 8)), 8))
	x.tick(4, 0)
	y.holds(hold(7, 8, 9), hold(8, 8, 9))
	x.whole(packet(0, true, run(4, 8)), packet(0, false, joined(run(4, 8), run(1, 8))))
	y.whole(packet(8, false, run(5, 3)), packet(0, false, joined(run(2, 8), run(5, 3))))
	x.more(packet(8, false, run(1, 8)))
	x.holds(hold(7, 8, 9))
	y.holds(hold(8, 8, 9))
	y.tick(9, 1)
	x.holds(hold(7, 8, 9))
}

func TestP5_3Examples(t *testing.T) {
	p := newPair(t, 2, 5)
	p.more(packet(48, false, run(100, 8)))
	p.holds(hold(7, 8, 5))
	p.whole(packet(0, true, run(0, 48)), packet(0, false, joined(run(0, 48), run(100, 8))))
	p.holds()

	p = newPair(t, 2, 5)
	p.more(packet(48, false, run(0, 8)))
	p.err(packet(48, true, run(0, 16)), api.ErrClash)

	p = newPair(t, 2, 5)
	p.more(packet(0, true, run(0, 16)))
	p.more(packet(8, true, run(50, 16)))
	p.whole(packet(24, false, nil), packet(0, false, joined(run(0, 16), run(58, 8))))

	p = newPair(t, 1, 5)
	p.more(packet(8, false, run(0, 8)))
	p.more(withID(packet(8, false, run(0, 8)), 8))
	p.holds(hold(8, 8, 5))

	p = newPair(t, 1, 5)
	p.more(packet(8, false, run(0, 8)))
	p.tick(4, 0)
	p.tick(1, 1)

	p = newPair(t, 1, 50)
	p.more(withTTL(packet(8, false, run(0, 8)), 3))
	p.tick(2, 0)
	p.more(withTTL(packet(8, false, run(0, 8)), 0))
	p.holds(hold(7, 8, 3))
	p.tick(1, 1)
}

// What may not be is refused first of all: no room is made for it, and a held key does not go.
func TestP5_3WhatMayNotBe(t *testing.T) {
	p := newPair(t, 1, 5)
	p.more(packet(8, true, run(0, 8)))
	for _, id := range []uint16{7, 8} {
		p.err(withID(withOpts(packet(4, false, run(0, 65516)), 1, 1, 1), id), api.ErrOpts)
		p.err(withID(withOpts(packet(0, false, nil), 0x83, 7, 1, 1), id), api.ErrOpts)
		p.err(withID(packet(4, false, run(0, 8)), id), api.ErrOff)
		p.err(withID(packet(0, true, nil), id), api.ErrOff)
		p.err(withID(packet(0, true, run(0, 7)), id), api.ErrOff)
		p.err(withID(packet(16, true, run(0, 9)), id), api.ErrOff)
		p.err(withID(packet(-8, false, run(0, 8)), id), api.ErrOff)
		p.err(withID(packet(65528, false, run(0, 8)), id), api.ErrOff)
		p.err(withID(packet(65536, false, nil), id), api.ErrOff)
		p.err(withID(packet(most-7, false, run(0, 8)), id), api.ErrOff)
		p.err(withID(packet(least, false, run(0, 8)), id), api.ErrOff)
		p.err(withID(packet(0, false, run(0, 65516)), id), api.ErrBig)
		p.err(withID(packet(8, false, run(0, 65516)), id), api.ErrBig)
		p.err(withID(packet(0, true, run(0, 65520)), id), api.ErrBig)
	}
	p.holds(hold(7, 8, 5))
	p.more(packet(16, false, run(8, 1)))
	p.whole(packet(0, true, run(50, 8)), packet(0, false, joined(run(50, 8), run(0, 9))))
}

func TestP5_3WholePackets(t *testing.T) {
	p := newPair(t, 2, 5)
	for _, q := range []api.Packet{
		{},
		packet(0, false, nil),
		packet(0, false, run(1, 5)),
		withDF(withOpts(packet(0, false, run(1, 65475)), mixedOpts()...)),
		withTTL(packet(0, false, run(1, 65515)), 0),
	} {
		p.whole(q, q)
		p.holds()
	}
	p.more(packet(8, true, run(0, 8)))
	p.more(withID(packet(8, true, run(0, 8)), 8))
	p.whole(withID(packet(0, false, run(1, 5)), 9), withID(packet(0, false, run(1, 5)), 9)) // needs no room
	p.holds(hold(7, 8, 5), hold(8, 8, 5))
	p.whole(packet(0, false, run(1, 5)), packet(0, false, run(1, 5)))
	p.holds(hold(8, 8, 5))
	// What was held of the key is gone: neither its bytes, nor its length, nor its Until are there.
	p.more(packet(8, false, run(0, 24)))
	p.whole(withTTL(packet(0, false, nil), 1), withTTL(packet(0, false, nil), 1))
	p.more(withTTL(packet(8, false, run(9, 2)), 1))
	p.holds(hold(7, 2, 1), hold(8, 8, 5))
	p.whole(packet(0, true, run(4, 8)), packet(0, false, joined(run(4, 8), run(9, 2))))
	p.tick(5, 1)
}

// A packet of another source, destination, protocol or id is of another datagram; of another header besides, of the same.
func TestP5_3Keys(t *testing.T) {
	first := packet(0, true, run(1, 8))
	for i, turn := range []func(h *api.Head){
		func(h *api.Head) { h.Src++ },
		func(h *api.Head) { h.Dst++ },
		func(h *api.Head) { h.Proto++ },
		func(h *api.Head) { h.ID++ },
		func(h *api.Head) { h.Src, h.Dst = h.Dst, h.Src },
	} {
		p := newPair(t, 2, 5)
		p.more(first)
		other := packet(8, false, run(2, 3))
		turn(&other.Head)
		p.more(other)
		if list := p.real.Held(); len(list) != 2 {
			t.Errorf("P5.3: turn %d: %v", i, list)
		}
		gone := packet(0, false, run(3, 3))
		turn(&gone.Head)
		p.whole(gone, gone)
		p.holds(hold(7, 8, 5))
	}
	for _, turn := range []func(h *api.Head){
		func(h *api.Head) { h.TOS++ },
		func(h *api.Head) { h.TTL++ },
		func(h *api.Head) { h.DF = true },
		func(h *api.Head) { h.Opts = []byte{1, 1, 1, 1} },
	} {
		p := newPair(t, 2, 5)
		p.more(first)
		other := packet(8, false, run(2, 3))
		turn(&other.Head)
		p.whole(other, packet(0, false, joined(run(1, 8), run(2, 3))))
	}
}

func TestP5_3LengthKnown(t *testing.T) {
	p := newPair(t, 2, 5)
	p.more(packet(48, false, run(0, 9)))
	p.tick(3, 0)
	// Ends above the length.
	p.err(packet(48, true, run(0, 16)), api.ErrClash)
	p.err(packet(0, true, run(0, 64)), api.ErrClash)
	p.err(packet(64, false, nil), api.ErrClash)
	p.err(packet(48, false, run(0, 10)), api.ErrClash)
	p.err(packet(65520, true, run(0, 8)), api.ErrClash)
	// Would be the last, and ends below the length.
	p.err(packet(48, false, run(0, 8)), api.ErrClash)
	p.err(packet(48, false, nil), api.ErrClash)
	p.err(packet(8, false, run(0, 8)), api.ErrClash)
	p.holds(hold(7, 9, 5)) // Until neither
	// Ends at it, or below it with MF.
	p.more(packet(8, false, run(10, 49)))
	p.more(packet(48, true, run(0, 8)))
	p.holds(hold(7, 49, 8))
	p.whole(packet(0, true, run(90, 8)), packet(0, false, joined(run(90, 8), run(10, 40), run(0, 9))))
}

func TestP5_3LengthNotKnown(t *testing.T) {
	p := newPair(t, 2, 5)
	p.more(packet(16, true, run(0, 16)))
	p.more(packet(8, true, run(0, 8)))
	p.tick(3, 0)
	p.err(packet(24, false, run(0, 7)), api.ErrClash)
	p.err(packet(24, false, nil), api.ErrClash)
	p.err(packet(8, false, run(0, 23)), api.ErrClash)
	p.holds(hold(7, 24, 5))
	p.more(packet(40, true, run(0, 8))) // nothing ends a length that is not known
	p.err(packet(32, false, run(0, 15)), api.ErrClash)
	p.more(packet(32, false, run(50, 16))) // just the greatest end
	p.err(packet(48, false, run(0, 1)), api.ErrClash)
	p.whole(packet(0, true, run(90, 8)), packet(0, false, joined(run(90, 8), run(0, 8), run(0, 16), run(50, 8), run(0, 8))))
}

func TestP5_3MoreAtTheLength(t *testing.T) {
	// The last piece has an empty body, and comes last, first, or between.
	a, b, end := packet(0, true, run(0, 8)), packet(8, true, run(8, 8)), packet(16, false, nil)
	whole := packet(0, false, run(0, 16))
	for _, order := range [][]api.Packet{{a, b, end}, {a, end, b}, {b, a, end}, {b, end, a}, {end, a, b}, {end, b, a}} {
		p := newPair(t, 1, 5)
		p.more(order[0])
		p.more(order[1])
		p.whole(order[2], whole)
	}
	p := newPair(t, 1, 5)
	p.more(end)
	p.holds(hold(7, 0, 5))
	p.more(end)
	p.more(b)
	p.err(packet(16, true, run(0, 8)), api.ErrClash)
	p.whole(a, whole)
	// A length at the very end.
	p.more(packet(65528, false, nil))
	p.more(packet(65520, true, run(0, 8)))
	p.err(packet(65528, false, run(0, 7)), api.ErrClash)
	p.holds(hold(7, 8, 5))
}

func TestP5_3Overlaps(t *testing.T) {
	p := newPair(t, 1, 5)
	p.more(packet(16, true, fill(16, 1)))
	p.more(packet(8, true, fill(16, 2)))
	p.more(packet(8, true, fill(16, 3)))  // covered already
	p.more(packet(24, true, fill(24, 4))) // half of it is
	p.more(packet(8, true, fill(48, 5)))  // all but its end is
	p.holds(hold(7, 48, 5))
	p.more(packet(72, true, fill(8, 6)))
	p.more(packet(64, false, fill(17, 7))) // on both sides of what is covered
	p.more(packet(16, true, fill(64, 8)))
	p.holds(hold(7, 73, 5))
	p.whole(packet(0, true, fill(80, 9)), packet(0, false, joined(fill(8, 9), fill(8, 2), fill(16, 1), fill(16, 4), fill(8, 5), fill(8, 8), fill(8, 7), fill(8, 6), fill(1, 7))))
}

func TestP5_3Doubles(t *testing.T) {
	p := newPair(t, 1, 200)
	for i := range 3 {
		p.more(packet(8, false, fill(9, byte(i))))
		p.holds(hold(7, 9, 9))
	}
	p.whole(packet(0, true, fill(8, 5)), packet(0, false, joined(fill(8, 5), fill(9, 0))))
	p.more(packet(0, true, fill(8, 5))) // what comes behind begins anew
	p.more(packet(0, true, fill(8, 6)))
	p.holds(hold(7, 8, 9))
	p.err(packet(8, true, nil), api.ErrOff)
	p.whole(packet(8, false, nil), packet(0, false, fill(8, 5)))
}

// The header is that of the first taken piece at offset 0, whatever comes ahead of it or behind it, and with which options.
func TestP5_3Header(t *testing.T) {
	head := func(off int, tos byte, n int) api.Packet {
		q := withTTL(withOpts(packet(off, true, fill(n, tos)), 1, 7, 3, tos, 7, 4, 9, 9), tos)
		q.Head.TOS = tos
		q.Head.DF = tos%2 == 1
		return q
	}
	for _, first := range []byte{1, 2} { // with DF and without
		p := newPair(t, 1, 5)
		p.more(withOpts(head(8, 4, 8), 7, 4, 9, 9))
		p.more(withOpts(head(0, first, 8), 1, 7, 2, 1))
		p.more(head(0, 3, 16))
		p.more(withOpts(head(8, 4, 8)))
		last := head(16, 5, 8)
		last.Head.MF = false
		want := withOpts(head(0, first, 8), 1, 7, 2, 1)
		want.Head.MF = false
		want.Body = joined(fill(8, first), fill(8, 4), fill(8, 5))
		p.whole(last, want)
	}
	// The piece that makes it whole is the one at offset 0 itself.
	p := newPair(t, 1, 5)
	p.more(packet(8, false, run(0, 3)))
	want := head(0, 3, 8)
	want.Head.MF = false
	want.Body = joined(fill(8, 3), run(0, 3))
	p.whole(head(0, 3, 8), want)
}

func TestP5_3RefusedHeaderIsNotKept(t *testing.T) {
	p := newPair(t, 1, 5)
	p.more(packet(8, false, run(0, 8)))
	refused := withTTL(withOpts(packet(0, true, run(50, 24)), 1, 1, 1, 1), 77)
	p.err(refused, api.ErrClash)
	p.more(withOpts(packet(8, true, run(0, 8)), 7, 4, 1, 1))
	p.whole(packet(0, true, run(9, 8)), packet(0, false, joined(run(9, 8), run(0, 8))))
}

func TestP5_3TooLong(t *testing.T) {
	opts := []byte{1, 1, 1, 1}
	p := newPair(t, 2, 9)
	first := withOpts(packet(0, true, run(0, 65504)), opts...)
	p.more(withTTL(first, 5))
	p.tick(2, 0)
	p.err(packet(65504, false, run(1, 8)), api.ErrBig) // 24 + 65512 is one too many
	p.err(packet(65504, false, run(2, 31)), api.ErrBig)
	p.err(packet(65480, false, run(3, 55)), api.ErrBig)
	p.holds(hold(7, 65504, 5)) // neither the length is known by them, nor the bytes covered, nor Until later
	p.more(packet(65512, true, run(4, 8)))
	p.err(packet(65504, false, run(5, 8)), api.ErrClash)
	p.err(packet(65504, true, nil), api.ErrOff)
	p.err(packet(65520, false, nil), api.ErrMore)
	p.err(packet(65504, true, run(6, 8)), api.ErrBig) // the last gap, by a piece with MF
	p.err(packet(65504, true, run(7, 16)), api.ErrBig)
	p.holds(hold(7, 65512, 11))
	p.whole(packet(0, false, nil), packet(0, false, nil))

	p.more(withTTL(first, 5))
	want := withTTL(first, 5)
	want.Head.MF = false
	want.Body = joined(run(0, 65504), run(9, 7))
	p.whole(packet(65504, false, run(9, 7)), want) // the longest
	p.holds()
}

// The options that count are those of the header, which the last piece that comes may bring.
func TestP5_3TooLongByItsHeader(t *testing.T) {
	p := newPair(t, 1, 5)
	p.more(withOpts(packet(8, false, run(0, 65467)), copiedOpts()...)) // ends at 65475
	p.whole(withOpts(packet(0, true, run(0, 8)), copiedOpts()...), withOpts(packet(0, false, joined(run(0, 8), run(0, 65467))), copiedOpts()...))
	p.more(packet(8, false, run(0, 65468))) // one byte longer
	p.err(withOpts(packet(0, true, run(0, 8)), copiedOpts()...), api.ErrBig)
	p.holds(hold(7, 65468, 5))
	p.whole(withOpts(packet(0, true, run(0, 8)), copiedOpts()[:0]...), packet(0, false, joined(run(0, 8), run(0, 65468))))
	// A header of 20 bytes is too long already.
	p.more(packet(65528, false, run(0, 7)))
	p.more(packet(32768, true, run(0, 32760)))
	p.err(packet(0, true, run(0, 32768)), api.ErrBig)
	p.holds(hold(7, 32767, 5))
	p.more(packet(8, true, run(0, 32760)))
	p.err(packet(0, true, run(0, 8)), api.ErrBig)
	p.holds(hold(7, 65527, 5))
}

func TestP5_3FullAssembler(t *testing.T) {
	p := newPair(t, 3, 100)
	p.more(withID(withTTL(packet(8, false, run(0, 8)), 9), 3))
	p.more(withID(withTTL(packet(8, false, run(0, 8)), 4), 2))
	p.more(withID(withTTL(packet(8, false, run(0, 8)), 4), 1))
	p.more(withID(withTTL(packet(8, false, run(0, 8)), 1), 9)) // 2 and 1 end alike: 2 came first
	p.holds(hold(1, 8, 4), hold(3, 8, 9), hold(9, 8, 1))
	p.more(withID(withTTL(packet(16, true, run(0, 8)), 200), 2)) // nothing is left of it, its length neither
	p.holds(hold(1, 8, 4), hold(2, 8, 100), hold(3, 8, 9))
	p.more(withID(withTTL(packet(8, true, run(0, 8)), 0), 0))
	p.holds(hold(0, 8, 1), hold(2, 8, 100), hold(3, 8, 9))
	// A piece of a held key needs no room.
	p.more(withID(withTTL(packet(32, true, run(0, 8)), 50), 2))
	p.more(withID(withTTL(packet(8, false, run(0, 8)), 50), 3))
	p.holds(hold(0, 8, 1), hold(2, 16, 100), hold(3, 8, 50))
	// Nor does one that makes a datagram whole, and there is room behind it.
	p.whole(withID(packet(0, true, run(4, 8)), 3), withID(packet(0, false, joined(run(4, 8), run(0, 8))), 3))
	p.more(withID(packet(8, true, run(0, 8)), 5))
	p.holds(hold(0, 8, 1), hold(2, 16, 100), hold(5, 8, 9))
}

// Of the same Until the first piece tells which was earlier, not the last, and not the key.
func TestP5_3SameUntil(t *testing.T) {
	for _, ids := range [][]uint16{{1, 2, 3}, {3, 2, 1}, {2, 3, 1}} {
		p := newPair(t, 3, 100)
		for _, id := range ids {
			p.more(withID(withTTL(packet(8, true, run(0, 8)), 2), id))
		}
		p.more(withID(withTTL(packet(16, true, run(0, 8)), 7), ids[1]))
		p.more(withID(withTTL(packet(16, true, run(0, 8)), 7), ids[2]))
		p.more(withID(withTTL(packet(16, true, run(0, 8)), 7), ids[0]))
		for i, id := range ids {
			p.more(withID(withTTL(packet(8, true, run(0, 8)), 200), uint16(100+i)))
			if slices.ContainsFunc(p.real.Held(), func(h api.Hold) bool { return h.ID == id }) {
				t.Errorf("P5.3: of %v the number %d did not go: %v", ids, i, p.real.Held())
			}
		}
	}
}

// A datagram that has gone and comes again is a later one.
func TestP5_3BegunAgainIsLater(t *testing.T) {
	for _, end := range []func(p *pair){
		func(p *pair) { p.whole(packet(0, false, nil), packet(0, false, nil)) },
		func(p *pair) {
			p.whole(packet(0, true, run(0, 8)), packet(0, false, joined(run(0, 8), run(0, 8))))
		},
	} {
		p := newPair(t, 2, 5)
		p.more(packet(8, false, run(0, 8)))
		p.more(withID(packet(8, false, run(0, 8)), 8))
		end(p)
		p.more(packet(8, false, run(0, 8)))
		p.more(withID(packet(8, false, run(0, 8)), 9))
		p.holds(hold(7, 8, 5), hold(9, 8, 5))
	}
}

func TestP5_3Until(t *testing.T) {
	for _, c := range []struct {
		life int64
		ttl  byte
		want int64
	}{
		{1, 0, 1}, {1, 1, 1}, {1, 2, 1}, {1, 255, 1},
		{5, 0, 1}, {5, 1, 1}, {5, 4, 4}, {5, 5, 5}, {5, 6, 5}, {5, 255, 5},
		{255, 254, 254}, {255, 255, 255}, {256, 255, 255}, {254, 255, 254},
		{1 << 40, 0, 1}, {1 << 40, 255, 255},
	} {
		p := newPair(t, 1, c.life)
		p.more(withTTL(packet(8, true, run(0, 8)), c.ttl))
		p.holds(hold(7, 8, c.want))
		p.tick(c.want-1, 0)
		p.tick(1, 1)
		p.more(withTTL(packet(8, true, run(0, 8)), c.ttl))
		p.holds(hold(7, 8, 2*c.want))
	}
}

func TestP5_3UntilIsTheGreatest(t *testing.T) {
	p := newPair(t, 1, 50)
	p.more(withTTL(packet(8, true, run(0, 8)), 3))
	p.tick(2, 0)
	p.more(withTTL(packet(24, true, run(0, 8)), 0)) // just the same
	p.holds(hold(7, 16, 3))
	p.more(withTTL(packet(24, true, run(0, 8)), 2)) // a double
	p.holds(hold(7, 16, 4))
	p.more(withTTL(packet(40, true, run(0, 8)), 200))
	p.holds(hold(7, 24, 52))
	p.more(withTTL(packet(48, true, run(0, 8)), 49))
	p.holds(hold(7, 32, 52))
	p.tick(49, 0)
	p.tick(1, 1)
}

func TestP5_4Tick(t *testing.T) {
	p := newPair(t, 5, 100)
	for _, n := range []int64{least, -1, 0, 0} {
		p.tick(n, 0)
	}
	for id, ttl := range []byte{3, 5, 3, 90, 4} {
		p.more(withID(withTTL(packet(8, true, run(0, 8)), ttl), uint16(id)))
	}
	p.tick(2, 0)
	p.tick(-1, 0) // neither forward nor back
	p.tick(least, 0)
	p.tick(0, 0)
	p.tick(1, 2)
	p.holds(hold(1, 8, 5), hold(3, 8, 90), hold(4, 8, 4))
	p.tick(0, 0)
	p.tick(2, 2)
	p.tick(84, 0)
	p.tick(1, 1)
	p.tick(0, 0)
	p.more(withTTL(packet(8, true, run(0, 8)), 1))
	p.holds(hold(7, 8, 91))
}

func TestP5_4GivenUpIsGone(t *testing.T) {
	p := newPair(t, 1, 5)
	p.more(packet(8, false, run(0, 8)))
	p.tick(5, 1)
	p.holds()
	p.more(packet(0, true, run(0, 8)))
	p.holds(hold(7, 8, 10))
	p.more(packet(16, true, run(0, 8))) // the old length does not count
	p.tick(most, 1)
}

func TestP5_4Never(t *testing.T) {
	p := newPair(t, 3, 1<<40)
	p.tick(most-10, 0)
	p.more(withTTL(packet(8, true, run(0, 8)), 9))
	p.more(withID(withTTL(packet(8, true, run(0, 8)), 10), 8))
	p.more(withID(withTTL(packet(8, true, run(0, 8)), 11), 9))
	p.holds(hold(7, 8, most-1), hold(8, 8, most), hold(9, 8, most))
	p.tick(8, 0)
	p.tick(1, 1)
	p.tick(0, 0)
	p.tick(-1, 0)
	p.tick(most, 2)
	for range 2 {
		p.more(packet(8, true, run(0, 8)))
		p.more(withID(packet(8, false, run(0, 8)), 8))
		p.holds(hold(7, 8, most), hold(8, 8, most))
		p.tick(-1, 0)
		p.whole(withID(packet(0, true, run(0, 8)), 8), withID(packet(0, false, joined(run(0, 8), run(0, 8))), 8))
		p.tick(0, 1)
		p.tick(1, 0)
	}
}

func TestP5_5Order(t *testing.T) {
	var heads []api.Head
	for _, src := range []api.Addr{0, 5, 1 << 31, 1<<32 - 1} {
		for _, dst := range []api.Addr{0, 7, 1<<32 - 1} {
			for _, proto := range []byte{0, 17, 128, 255} {
				for _, id := range []uint16{0, 9, 32768, 65535} {
					heads = append(heads, api.Head{Src: src, Dst: dst, Proto: proto, ID: id, Off: 8, TTL: 9})
				}
			}
		}
	}
	roll := dice()
	for range 20 {
		a := made(t, 256, 100)
		for _, i := range roll.Perm(len(heads)) {
			h := heads[i]
			h.TTL = byte(1 + i%7)
			if _, e := a.Add(api.Packet{Head: h, Body: run(0, i%30)}); e != api.ErrMore {
				t.Fatalf("P5.3: %d", e)
			}
		}
		for range 3 { // and it changes nothing
			list := a.Held()
			if len(list) != len(heads) {
				t.Fatalf("P5.5: %d of %d", len(list), len(heads))
			}
			for i, h := range heads {
				if want := (api.Hold{Src: h.Src, Dst: h.Dst, Proto: h.Proto, ID: h.ID, Bytes: i % 30, Until: int64(1 + i%7)}); list[i] != want {
					t.Fatalf("P5.5: Held()[%d] = %v, want %v", i, list[i], want)
				}
			}
		}
	}
}

func TestP5_5Empty(t *testing.T) {
	p := newPair(t, 3, 5)
	p.holds()
	p.whole(packet(0, false, run(0, 3)), packet(0, false, run(0, 3)))
	p.err(packet(3, true, nil), api.ErrOff)
	p.holds()
}

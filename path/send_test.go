package path

import (
	"math"
	"testing"

	"weft/api"
)

// oddClasses is an address at each end of each class that is not 0.
var oddClasses = []api.Addr{0, quad(0, 255, 255, 255), quad(127, 0, 0, 0), quad(127, 255, 255, 255), quad(224, 0, 0, 0), quad(239, 255, 255, 255), quad(240, 0, 0, 0), math.MaxUint32}

// plainEnds is the addresses of class 0 beside them.
var plainEnds = []api.Addr{quad(1, 0, 0, 0), quad(126, 255, 255, 255), quad(128, 0, 0, 0), quad(223, 255, 255, 255)}

// unreadable is bytes that ip4.Parse refuses, with each of its errors. Their addresses are of a bad class, their time is up.
func unreadable() map[api.Errno][][]byte {
	p := udp(0, quad(224, 0, 0, 1), 0)
	opts := withOpts(p, 1, 1, 1, 0)
	with := func(q api.Packet, at int, v byte) []byte {
		b := raw(q)
		b[at] = v
		return resummed(b)
	}
	return map[api.Errno][][]byte{
		api.ErrShort:   {nil, {}, {1, 2, 3}, raw(p)[:19], raw(p)[:29], raw(opts)[:20], raw(opts)[:23]},
		api.ErrVersion: {with(p, 0, 0x65), with(p, 0, 0x05)},
		api.ErrHead:    {with(p, 0, 0x44), with(p, 0, 0x40), with(p, 3, 19), with(p, 6, 0x80)},
		api.ErrSum:     {spoilt(p, 8), spoilt(p, 10), spoilt(p, 19)},
		api.ErrOpts:    {with(opts, 20, 7), with(opts, 20, 0), with(opts, 23, 7)},
		api.ErrOff:     {piece(raw(p)[:20], 0x2000, nil), piece(raw(p)[:20], 0x2000, run(9)), piece(raw(p)[:20], 0x1fff, run(8))},
	}
}

// Step 1: what ip4.Parse refuses, ahead of bad classes.
func TestP17_4BadPacket(t *testing.T) {
	b := host(t, 1, 1500)
	n := 0
	for err, list := range unreadable() {
		for _, bytes := range list {
			b.send(bytes).isWith(api.VBadPacket, err).nothing()
			n++
		}
	}
	if got := b.counts()[1]; got != n {
		t.Errorf("P17.9: %d were counted, want %d", got, n)
	}
}

// Step 2: Src ahead of Dst, Dst ahead of what the kernel says, even where a route leads there.
func TestP17_4Classes(t *testing.T) {
	b := host(t, 1, 1500).binds("odd", oddClasses...).binds("end", plainEnds...)
	for range 2 {
		for _, a := range oddClasses {
			b.sends(udp(a, cli, 9)).only(api.VBadSrc)
			b.sends(udp(a, web, 9)).only(api.VBadSrc)
			b.sends(udp(a, at(9, 9), 0)).only(api.VBadSrc)
			b.sends(udp(cli, a, 9)).only(api.VBadDst)
			b.sends(ping(cli, a, 0)).only(api.VBadDst)
			for _, other := range oddClasses {
				b.sends(udp(a, other, 1)).only(api.VBadSrc)
			}
		}
		// Now with a way for every address: its broadcast addresses and its gateway are of no plain class.
		b.does(putLocal(0, 0))
	}
	for _, a := range plainEnds {
		b.sends(udp(a, cli, 9)).is(api.VDelivered).gives("cli", udp(a, cli, 8))
		b.sends(udp(cli, a, 9)).is(api.VDelivered).gives("end", udp(cli, a, 8))
	}
}

// Step 3: no way, ahead of the time and the length.
func TestP17_4NoRoute(t *testing.T) {
	b := host(t, 1, 126)
	for _, ttl := range []byte{0, 1, 2, 255} {
		for _, dst := range []api.Addr{quad(10, 9, 0, 1), at(0, 255), at(3, 0), quad(223, 255, 255, 255)} {
			p := withDF(sized(udp(cli, dst, ttl), 77))
			b.sends(p).is(api.VNoRoute).tells(p, 3, 0, 0)
		}
	}
}

// Step 4: a local way is not asked for neighbours or lengths.
func TestP17_4Local(t *testing.T) {
	b := host(t, 1, 126)
	for _, total := range []int{20, 76, 77, 1500, 65535} {
		p := withDF(sized(udp(web, cli, 2), total))
		b.sends(p).is(api.VDelivered).gives("cli", withTTL(p, 1))
		p.Head.DF = false
		b.sends(p).is(api.VDelivered).gives("cli", withTTL(p, 1))
	}
}

// Step 5: the time, ahead of the neighbour, the entry and the length.
func TestP17_4TimeOut(t *testing.T) {
	b := host(t, 1, 126)
	for i, op := range []api.Op{putFdb(mac(2), pub(2)), delFdb(mac(2)), delNeigh(at(2, 0))} {
		b.does(op)
		for _, ttl := range []byte{0, 1} {
			for _, p := range []api.Packet{udp(cli, web, ttl), withDF(sized(udp(cli, web, ttl), 77)), sized(udp(cli, web, ttl), 77)} {
				b.sends(p).is(api.VTimeOut).tells(p, 11, 0, 0)
			}
		}
		b.sends(udp(cli, web, 2)).is([]int{api.VSent, api.VNoFdb, api.VNoNeigh}[i])
	}
}

// A remote way has neither broadcast addresses nor a gateway, and no pod is asked for.
func TestP17_4RemoteEdges(t *testing.T) {
	b := host(t, 1, 1500).binds("far", web)
	for _, d := range []int{0, 1, 2, 255} {
		p := ping(cli, at(2, d), 2)
		b.sends(p).is(api.VSent).puts(withTTL(p, 1))
		b.sends(withTTL(p, 1)).is(api.VTimeOut).tells(withTTL(p, 1), 11, 0, 0)
	}
}

// Step 6: the neighbour ahead of the entry, both ahead of the length.
func TestP17_4NoNeighNoFdb(t *testing.T) {
	b := host(t, 1, 126)
	list := []api.Packet{udp(cli, web, 2), withDF(sized(udp(cli, web, 255), 77)), sized(udp(cli, web, 9), 77)}
	b.does(delFdb(mac(2)), putFdb(mac(3), pub(2)))
	for _, p := range list {
		b.sends(p).is(api.VNoFdb).tells(p, 3, 1, 0)
	}
	b.does(delNeigh(at(2, 0)), putNeigh(at(2, 1), mac(3)), putFdb(mac(2), pub(2)))
	for _, p := range list {
		b.sends(p).is(api.VNoNeigh).tells(p, 3, 1, 0)
	}
}

// The longest route decides, whether its way goes on or not.
func TestP17_4LongestRoute(t *testing.T) {
	b := host(t, 1, 1500).does(putVia(web, 32, 5))
	b.sends(udp(cli, web, 9)).is(api.VNoNeigh).tells(udp(cli, web, 9), 3, 1, 0)
	b.sends(udp(cli, at(2, 3), 9)).is(api.VSent).puts(udp(cli, at(2, 3), 8))
	b.does(putVia(at(1, 8), 29, at(2, 0)))
	b.sends(udp(cli, at(1, 9), 9)).is(api.VSent).puts(udp(cli, at(1, 9), 8))
	b.does(putLocal(at(1, 8), 30))
	b.sends(udp(cli, at(1, 9), 9)).only(api.VHost)
	b.sends(udp(cli, at(1, 12), 9)).is(api.VSent).puts(udp(cli, at(1, 12), 8))
	b.does(putVia(0, 0, at(2, 0)))
	b.sends(udp(cli, quad(8, 8, 8, 8), 9)).is(api.VSent).puts(udp(cli, quad(8, 8, 8, 8), 8))
}

// Step 7: a length of the inner MTU, and of one byte more, with and without DF.
func TestP17_4TooBig(t *testing.T) {
	for _, mtu := range []int{126, 127, 1500, 9000} {
		b := host(t, 1, mtu)
		for _, opts := range [][]byte{nil, {1, 1, 1, 1}, {0x83, 7, 4, 10, 9, 9, 9, 1}} {
			p := withOpts(udp(cli, web, 2), opts...)
			fits, over := sized(p, mtu-50), sized(p, mtu-49)
			b.sends(withDF(fits)).is(api.VSent).puts(withTTL(withDF(fits), 1))
			b.sends(fits).is(api.VSent).puts(withTTL(fits, 1))
			b.sends(withDF(over)).is(api.VTooBig).tells(withDF(over), 3, 4, mtu-50)
			if o := b.sends(over).is(api.VSent); len(o.r.Out) != 2 || len(o.r.Local) != 0 {
				t.Errorf("P17.4: %d pieces", len(o.r.Out))
			}
		}
	}
}

// What stands behind a packet's length makes it no longer.
func TestP17_4LengthIsTold(t *testing.T) {
	b := host(t, 1, 126)
	p := withDF(sized(udp(cli, web, 9), 76))
	b.send(append(raw(p), 1, 2, 3)).is(api.VSent).puts(withTTL(p, 8))
	b.send(append(raw(p), make([]byte, 70000)...)).is(api.VSent).puts(withTTL(p, 8))
	p = sized(udp(cli, web, 9), 20)
	b.send(append(raw(p), 1, 2, 3)).is(api.VSent).puts(withTTL(p, 8))
}

// part is the piece of a packet with the bytes from one place to another.
func part(p api.Packet, from, to int, more bool) api.Packet {
	p.Body = p.Body[from:to]
	p.Head.Off, p.Head.MF = p.Head.Off+from, more
	return p
}

// Step 8: pieces, in order; of the options those with the bit 0x80 are carried on.
func TestP17_4Pieces(t *testing.T) {
	b := host(t, 1, 126)
	p := sized(udp(cli, web, 9), 20+150)
	q := withTTL(p, 8)
	b.sends(p).is(api.VSent).puts(part(q, 0, 56, true), part(q, 56, 112, true), part(q, 112, 150, false))
	carried := []byte{0x83, 7, 4, 10, 9, 9, 9, 0}
	p = withOpts(p, 0x83, 7, 4, 10, 9, 9, 9, 7, 3, 4, 1, 0)
	q, next := withTTL(p, 8), withOpts(withTTL(p, 8), carried...)
	b.sends(p).is(api.VSent).puts(part(q, 0, 40, true), part(next, 40, 88, true), part(next, 88, 136, true), part(next, 136, 150, false))
	p = withOpts(p, 7, 3, 4, 1)
	q, next = withTTL(p, 8), withOpts(withTTL(p, 8))
	b.sends(p).is(api.VSent).puts(part(q, 0, 48, true), part(next, 48, 104, true), part(next, 104, 150, false))
	// The options of forty bytes, all carried on, leave room for 16 bytes.
	long := append([]byte{0x83, 40}, run(38)...)
	p = withOpts(udp(cli, web, 9), long...)
	p.Body = run(33)
	q = withTTL(p, 8)
	b.sends(p).is(api.VSent).puts(part(q, 0, 16, true), part(q, 16, 32, true), part(q, 32, 33, false))
}

// A piece is cut again: its offset and its flag go on.
func TestP17_4PieceOfAPiece(t *testing.T) {
	b := host(t, 1, 126)
	p := sized(udp(cli, web, 9), 20+64)
	p.Head.Off, p.Head.MF = 800, true
	q := withTTL(p, 8)
	b.sends(p).is(api.VSent).puts(part(q, 0, 56, true), part(q, 56, 64, true))
	p.Head.MF, q.Head.MF = false, false
	b.sends(p).is(api.VSent).puts(part(q, 0, 56, true), part(q, 56, 64, false))
	b.sends(sized(p, 30)).is(api.VSent).puts(sized(q, 30))
	// No fault is told about a piece behind the first, and none about a packet that goes on.
	b.sends(withDF(p)).only(api.VTooBig)
	p.Head.Off = 65528 - 64
	q.Head.Off = 65528 - 64
	b.sends(p).is(api.VSent).puts(part(q, 0, 56, true), part(q, 56, 64, false))
}

// All else in a packet goes on as it came.
func TestP17_4GoesOnAsItCame(t *testing.T) {
	b := host(t, 1, 1500)
	for _, proto := range []byte{0, 1, 6, 17, 255} {
		p := udp(quad(223, 1, 2, 3), web, 255)
		p.Head.TOS, p.Head.ID, p.Head.Proto, p.Head.DF = 0xab, 0xcdef, proto, true
		p = withOpts(p, 7, 3, 4, 1)
		b.sends(p).is(api.VSent).puts(withTTL(p, 254))
		p.Body = nil
		b.sends(p).is(api.VSent).puts(withTTL(p, 254))
	}
}

package under

import (
	"bytes"
	"math"
	"testing"

	"weft/api"
)

// Each byte of a packet in the midst, with every mask: just these bits are turned over, and again they are as they were.
func TestP18_6EveryByteEveryMask(t *testing.T) {
	b := begun(t, 3)
	one, two, three := sent(1, 0, 255, 0x5a), sent(2, 0, 255, 0x5a, 0x0f), sent(3, 0, 255)
	b.joins(one, two, three)
	for at := range two.Bytes {
		for mask := 1; mask < 256; mask++ {
			turned := sent(2, bytes.Clone(two.Bytes)...)
			for bit := range 8 {
				if mask>>bit&1 == 1 {
					if turned.Bytes[at]>>bit&1 == 1 {
						turned.Bytes[at] -= 1 << bit
					} else {
						turned.Bytes[at] += 1 << bit
					}
				}
			}
			b.is(b.spoil(1, at, byte(mask)), api.OK).has(one, turned, three)
			b.is(b.spoil(1, at, byte(mask)), api.OK).has(one, two, three)
		}
	}
}

// Two masks, one behind the other, are their difference.
func TestP18_6OneBehindTheOther(t *testing.T) {
	b := begun(t, 1)
	b.joins(sent(1, 0x33))
	b.is(b.spoil(0, 0, 0xff), api.OK).has(sent(1, 0xcc))
	b.is(b.spoil(0, 0, 0x0f), api.OK).has(sent(1, 0xc3))
	b.is(b.spoil(0, 0, 0x01), api.OK).has(sent(1, 0xc2))
	b.is(b.spoil(0, 0, 0x80), api.OK).has(sent(1, 0x42))
	b.is(b.spoil(0, 0, 0x71), api.OK).has(sent(1, 0x33))
}

// The ends of packets of all kinds of lengths.
func TestP18_6Ends(t *testing.T) {
	for _, n := range []int{0, 1, 2, 3, 20, 256, 1500, 65534, 65535} {
		b := begun(t, 3)
		b.joins(sent(1, 7), sent(2, run(n)...), sent(3, 8, 9))
		for _, at := range []int{0, n / 2, n - 1} {
			if at < 0 || at >= n {
				continue
			}
			want := run(n)
			want[at] ^= 0xff
			b.is(b.spoil(1, at, 0xff), api.OK).has(sent(1, 7), sent(2, want...), sent(3, 8, 9))
			b.is(b.spoil(1, at, 0xff), api.OK)
		}
		for _, at := range append([]int{n, n + 1, -n - 1, 65535}, nowhereInside...) {
			for _, mask := range []byte{0, 1, 0x80, 0xff} {
				b.is(b.spoil(1, at, mask), api.ErrArg)
			}
		}
		b.has(sent(1, 7), sent(2, run(n)...), sent(3, 8, 9))
	}
}

// nowhereInside is what is no place in a packet, whatever its length.
var nowhereInside = []int{-1, -2, 65535, 65536, 1 << 32, -1 << 32, math.MinInt32, math.MaxInt32, math.MinInt, math.MinInt + 1, math.MaxInt - 1, math.MaxInt}

func TestP18_6NoMask(t *testing.T) {
	b := filled(t, 4, 4)
	for i := range 4 {
		for _, at := range []int{-1, 0, 1, 4, 5, math.MinInt, math.MaxInt} {
			b.is(b.spoil(i, at, 0), api.ErrArg)
		}
	}
	b.has(row(4)...)
}

// A packet without bytes has none to spoil.
func TestP18_6NoBytes(t *testing.T) {
	b := begun(t, 3)
	b.joins(sent(1), sent(2, 5), api.Sent{To: 3, Bytes: make([]byte, 0, 8)})
	for _, i := range []int{0, 2} {
		for _, at := range append([]int{0, 1, 7, 8}, nowhereInside...) {
			b.is(b.spoil(i, at, 1), api.ErrArg).is(b.spoil(i, at, 0), api.ErrArg)
		}
	}
	b.has(sent(1), sent(2, 5), sent(3))
}

// The spare room of what was handed in is no part of the packet.
func TestP18_6SpareRoomIsNoByte(t *testing.T) {
	room := []byte{1, 2, 3, 4, 5}
	b := begun(t, 1)
	b.joins(api.Sent{To: 1, Bytes: room[:2]})
	b.is(b.spoil(0, 2, 1), api.ErrArg).is(b.spoil(0, 1, 1), api.OK).has(sent(1, 1, 3))
}

// That there is no such packet is told ahead of what is wrong with the place and the mask.
func TestP18_6NoneAheadOfArg(t *testing.T) {
	for _, n := range []int{0, 1, 3} {
		b := filled(t, 3, n)
		for _, i := range append([]int{n, n + 1}, nowhere...) {
			for _, at := range append([]int{0, 1}, nowhereInside...) {
				for _, mask := range []byte{0, 1, 0xff} {
					b.is(b.spoil(i, at, mask), api.ErrNone)
				}
			}
		}
	}
}

// The packet that stands at the place now is spoilt, and it keeps its marks where it moves up.
func TestP18_6MovesWithThePacket(t *testing.T) {
	b := begun(t, 4)
	b.joins(sent(1, 1), sent(2, 2), sent(3, 3))
	b.is(b.spoil(1, 0, 0x10), api.OK).is(b.lose(0), api.OK).has(sent(2, 0x12), sent(3, 3))
	b.is(b.spoil(1, 0, 0x20), api.OK).has(sent(2, 0x12), sent(3, 0x23))
	b.is(b.copy(1), api.OK).takes(0, sent(2, 0x12)).has(sent(3, 0x23), sent(3, 0x23))
	b.joins(sent(4, 4)).is(b.spoil(2, 0, 0x40), api.OK).has(sent(3, 0x23), sent(3, 0x23), sent(4, 0x44))
}

package nat

import (
	"weft/api"
	"weft/ip4"
)

const (
	ipHeadSize  = 20 // a packet's header without options
	leastQuoted = 8  // the bytes behind a quoted header that tell a tuple
	noSum       = 0  // a datagram's sum that was not taken
	otherZero   = 1<<16 - 1
)

// Where the fields lie in a header.
const (
	atHeaderSum = 10
	behindSum   = 12
	atSrc       = 12
	atDst       = 16
)

// Where the fields lie in a message.
const (
	atSrcPort     = 0 // of datagrams and segments
	atDstPort     = 2
	atDatagramSum = 6
	atSegmentSum  = 16
	atType        = 0 // of echoes
	atCode        = 1
	atEchoSum     = 2
	atNumber      = 4
)

const (
	echoReply   = 0
	echoRequest = 8
	echoCode    = 0 // of both
)

// words is a tuple as a sum takes it.
type words [6]uint16

func wordsOf(t api.Tuple) words {
	return words{uint16(t.Src >> 16), uint16(t.Src), uint16(t.Dst >> 16), uint16(t.Dst), t.SrcPort, t.DstPort}
}

// turnMessage writes ports and sum into what a packet with the tuple from carries, or into the front of it that a fault quotes.
func turnMessage(b []byte, from, to api.Tuple) {
	switch from.Proto {
	case api.ProtoUDP:
		writePorts(b, to)
		turnDatagramSum(b[atDatagramSum:], wordsOf(from), wordsOf(to))
	case api.ProtoTCP:
		writePorts(b, to)
		if len(b) >= atSegmentSum+2 {
			turnSum(b[atSegmentSum:], wordsOf(from), wordsOf(to))
		}
	case api.ProtoICMP:
		write16(b[atNumber:], to.SrcPort)
		turnWord(b[atEchoSum:], from.SrcPort, to.SrcPort)
	}
}

func writePorts(b []byte, t api.Tuple) {
	write16(b[atSrcPort:], t.SrcPort)
	write16(b[atDstPort:], t.DstPort)
}

// turnSum turns the sum at b's front over by all words of two tuples.
func turnSum(b []byte, old, next words) {
	for i := range old {
		turnWord(b, old[i], next[i])
	}
}

// turnWord leaves a word out that stays: by it a sum of 65535 would become 0.
func turnWord(b []byte, old, next uint16) {
	if old != next {
		write16(b, ip4.Adjust(read16(b), old, next))
	}
}

// turnDatagramSum leaves a datagram without a sum without one, and never makes one that has a sum look so.
func turnDatagramSum(b []byte, old, next words) {
	if read16(b) == noSum {
		return
	}
	turnSum(b, old, next)
	if read16(b) == noSum {
		write16(b, otherZero)
	}
}

// mendZeros mends the one sum that comes out wrong where it is turned over: that of a message of zeros alone is 65535, not 0.
func mendZeros(b []byte) {
	for _, v := range b {
		if v != 0 {
			return
		}
	}
	write16(b[atEchoSum:], otherZero)
}

// turnHeader writes a tuple's addresses into a header that is quoted, and its sum anew.
func turnHeader(header []byte, t api.Tuple) {
	write32(header[atSrc:], uint32(t.Src))
	write32(header[atDst:], uint32(t.Dst))
	write16(header[atHeaderSum:], ip4.Sum(header[:atHeaderSum], header[behindSum:]))
}

func read16(b []byte) uint16 {
	return uint16(b[0])<<8 | uint16(b[1])
}

func write16(b []byte, v uint16) {
	b[0], b[1] = byte(v>>8), byte(v)
}

func write32(b []byte, v uint32) {
	write16(b, uint16(v>>16))
	write16(b[2:], uint16(v))
}

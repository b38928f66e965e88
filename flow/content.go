package flow

import (
	"weft/api"
	"weft/ip4"
)

// The fewest bytes that a body may have.
const (
	leastDatagram = 8
	leastEcho     = 8
	leastSegment  = 20
	leastQuoted   = 8 // of any protocol, where a fault quotes it
)

// Where the fields lie in a body.
const (
	atSrcPort = 0 // of datagrams and segments
	atDstPort = 2
	atFlags   = 13 // of segments
	atType    = 0  // of control messages
	atCode    = 1
	atNumber  = 4
)

// The control messages that are echoes.
const (
	replyType   = 0
	requestType = 8
	echoCode    = 0
)

// content is what is in a packet that has a tuple.
type content interface {
	ports() (src, dst uint16)
}

type datagram struct {
	src, dst uint16
}

type echo struct {
	number  uint16
	request bool
}

type segment struct {
	src, dst uint16
	flags    byte
}

func (d datagram) ports() (src, dst uint16) { return d.src, d.dst }

func (e echo) ports() (src, dst uint16) { return e.number, e.number }

func (s segment) ports() (src, dst uint16) { return s.src, s.dst }

// read tells what is in a packet, or why it has no tuple.
func read(p api.Packet) (content, api.Errno) {
	if _, err := ip4.Build(p); err != api.OK {
		return nil, err
	}
	if p.Head.Off > 0 {
		return nil, api.ErrPiece
	}
	if len(p.Body) < leastBody(p.Head.Proto) {
		return nil, api.ErrShort
	}
	inside, known := contentOf(p.Head.Proto, p.Body)
	if !known {
		return nil, api.ErrTuple
	}
	return inside, api.OK
}

func leastBody(proto byte) int {
	switch proto {
	case api.ProtoICMP:
		return leastEcho
	case api.ProtoUDP:
		return leastDatagram
	case api.ProtoTCP:
		return leastSegment
	}
	return 0
}

// contentOf reads a body that is long enough, or what a fault quotes of one; false, if no tuple can be told of it.
func contentOf(proto byte, b []byte) (content, bool) {
	switch proto {
	case api.ProtoICMP:
		return echoIn(b)
	case api.ProtoUDP:
		return datagram{src: field(b, atSrcPort), dst: field(b, atDstPort)}, true
	case api.ProtoTCP:
		return segment{src: field(b, atSrcPort), dst: field(b, atDstPort), flags: flagsIn(b)}, true
	}
	return nil, false
}

func echoIn(b []byte) (content, bool) {
	typ, code := b[atType], b[atCode]
	if typ != requestType && typ != replyType || code != echoCode {
		return nil, false
	}
	return echo{number: field(b, atNumber), request: typ == requestType}, true
}

// flagsIn is a segment's flags; none, where what is quoted of it ends ahead of them.
func flagsIn(b []byte) byte {
	if len(b) <= atFlags {
		return 0
	}
	return b[atFlags]
}

func field(b []byte, at int) uint16 {
	return uint16(b[at])<<8 | uint16(b[at+1])
}

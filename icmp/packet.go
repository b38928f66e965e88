package icmp

import (
	"weft/addr"
	"weft/api"
	"weft/ip4"
)

const (
	ipHeadSize = 20 // a packet's header without options
	quotedBody = 8  // what a fault quotes of a packet's body
	madeTTL    = 64 // of the packets that are made here
)

// Fault is the packet that tells of a fault.
func Fault(p api.Packet, typ, code byte, arg int, from api.Addr) (api.Packet, api.Errno) {
	if !mayTell(typ, code, arg) || !isPlain(from) {
		return api.Packet{}, api.ErrArg
	}
	whole, err := ip4.Build(p)
	if err != api.OK {
		return api.Packet{}, err
	}
	if !mayBeTold(p) {
		return api.Packet{}, api.ErrQuiet
	}
	size := ipHeadSize + len(p.Head.Opts) + min(len(p.Body), quotedBody)
	told := api.Control{Type: typ, Code: code, Rest: restOf(typ, arg), Body: whole[:size]}
	return carry(told, api.Head{Src: from, Dst: p.Head.Src}), api.OK
}

// Echo is the reply to an echo request.
func Echo(p api.Packet) (api.Packet, api.Errno) {
	c, err := messageOf(p)
	switch {
	case err != api.OK:
		return api.Packet{}, err
	case c.Type != echoRequest || c.Code != echoCode:
		return api.Packet{}, api.ErrNotEcho
	case !hasPlainEnds(p.Head):
		return api.Packet{}, api.ErrQuiet
	}
	c.Type = echoReply
	return carry(c, api.Head{TOS: p.Head.TOS, Src: p.Head.Dst, Dst: p.Head.Src}), api.OK
}

// About tells of which packet a fault speaks.
func About(p api.Packet) (api.Head, []byte, api.Errno) {
	c, err := messageOf(p)
	if err != api.OK {
		return api.Head{}, nil, err
	}
	if !isFault(c.Type) {
		return api.Head{}, nil, api.ErrNotEcho
	}
	return ip4.Peek(c.Body)
}

// messageOf reads the message that a packet carries whole.
func messageOf(p api.Packet) (api.Control, api.Errno) {
	if _, err := ip4.Build(p); err != api.OK {
		return api.Control{}, err
	}
	if p.Head.Proto != api.ProtoICMP || p.Head.Off > 0 || p.Head.MF {
		return api.Control{}, api.ErrICMP
	}
	return Parse(p.Body)
}

// carry makes the packet with that head of a message that has room in it.
func carry(c api.Control, head api.Head) api.Packet {
	head.TTL, head.Proto = madeTTL, api.ProtoICMP
	return api.Packet{Head: head, Body: lay(c)}
}

// mayBeTold tells whether a fault may be told about a packet. Faults about faults could go to and fro for ever, and a datagram in pieces, or one to many hosts, would bring its sender many.
func mayBeTold(p api.Packet) bool {
	if p.Head.Off > 0 || !hasPlainEnds(p.Head) {
		return false
	}
	return p.Head.Proto != api.ProtoICMP || len(p.Body) > 0 && !isFault(p.Body[0])
}

func hasPlainEnds(h api.Head) bool {
	return isPlain(h.Src) && isPlain(h.Dst)
}

func isPlain(a api.Addr) bool {
	return addr.Class(a) == 0
}

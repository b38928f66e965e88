package tunnel

import (
	"weft/api"
	"weft/ip4"
)

const maxDatagram = 65535

// Where the fields of a datagram begin; each ends where the next begins.
const (
	atSrcPort = 0
	atDstPort = 2
	atLength  = 4
	atSum     = 6
	udpHead   = 8
)

// Where the fields of a pseudo header begin.
const (
	atPseudoSrc    = 0
	atPseudoDst    = 4
	behindDst      = 8
	atPseudoProto  = 9
	atPseudoLength = 10
	pseudoHead     = 12
)

const (
	noSum   = 0
	zeroSum = 0xffff // what stands for a sum that comes to 0
)

// ParseUDP reads a datagram.
func ParseUDP(src, dst api.Addr, b []byte) (api.Datagram, api.Errno) {
	switch {
	case len(b) > maxDatagram:
		return api.Datagram{}, api.ErrLong
	case len(b) < udpHead:
		return api.Datagram{}, api.ErrUDP
	}
	length := read[uint16](b[atLength:atSum])
	if length < udpHead || int(length) > len(b) {
		return api.Datagram{}, api.ErrUDP
	}
	b = b[:length]
	pseudo := pseudoOf(src, dst, length)
	if read[uint16](b[atSum:udpHead]) != noSum && ip4.Sum(pseudo[:], b) != 0 {
		return api.Datagram{}, api.ErrUSum
	}
	return api.Datagram{
		SrcPort: read[uint16](b[atSrcPort:atDstPort]),
		DstPort: read[uint16](b[atDstPort:atLength]),
		Body:    copied(b[udpHead:]),
	}, api.OK
}

// BuildUDP writes a datagram, with its checksum or without.
func BuildUDP(src, dst api.Addr, d api.Datagram, sum bool) ([]byte, api.Errno) {
	if len(d.Body) > maxDatagram-udpHead {
		return nil, api.ErrLong
	}
	length := uint16(udpHead + len(d.Body))
	var head [udpHead]byte
	write(head[atSrcPort:atDstPort], d.SrcPort)
	write(head[atDstPort:atLength], d.DstPort)
	write(head[atLength:atSum], length)
	if sum {
		pseudo := pseudoOf(src, dst, length)
		write(head[atSum:udpHead], fieldOf(ip4.Sum(pseudo[:], head[:], d.Body)))
	}
	return join(head[:], d.Body), api.OK
}

// pseudoOf is what a datagram's sum counts besides its own bytes.
func pseudoOf(src, dst api.Addr, length uint16) [pseudoHead]byte {
	var pseudo [pseudoHead]byte
	write(pseudo[atPseudoSrc:atPseudoDst], src)
	write(pseudo[atPseudoDst:behindDst], dst)
	pseudo[atPseudoProto] = api.ProtoUDP
	write(pseudo[atPseudoLength:pseudoHead], length)
	return pseudo
}

// fieldOf is how a sum is written: 0 would say that there is none.
func fieldOf(sum uint16) uint16 {
	if sum == noSum {
		return zeroSum
	}
	return sum
}

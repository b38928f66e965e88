package flow

import (
	"encoding/binary"
	"math"
	"math/rand"
	"testing"

	"weft/api"
	"weft/icmp"
	"weft/ip4"
)

const (
	most  = math.MaxInt64
	least = math.MinInt64
)

// dice rolls the same way in every run.
func dice() *rand.Rand {
	return rand.New(rand.NewSource(21))
}

func pick[E any](r *rand.Rand, list ...E) E {
	return list[r.Intn(len(list))]
}

func quad(a, b, c, d int) api.Addr {
	return api.Addr(a<<24 | b<<16 | c<<8 | d)
}

// The addresses that the tests speak of most.
var (
	hostA = quad(10, 5, 1, 2)
	hostB = quad(10, 5, 2, 2)
	hostC = quad(192, 0, 2, 1)
	hostD = quad(192, 0, 2, 9)
)

func tup(src, dst api.Addr, proto byte, from, to uint16) api.Tuple {
	return api.Tuple{Src: src, Dst: dst, Proto: proto, SrcPort: from, DstPort: to}
}

// turned is a tuple turned round, said in another way than the program does.
func turned(u api.Tuple) api.Tuple {
	u.Src, u.Dst = u.Dst, u.Src
	u.SrcPort, u.DstPort = u.DstPort, u.SrcPort
	return u
}

// bare is a packet with that tuple's ends and protocol, and any body.
func bare(u api.Tuple, body ...byte) api.Packet {
	return api.Packet{Head: api.Head{TTL: 9, Proto: u.Proto, Src: u.Src, Dst: u.Dst}, Body: body}
}

func withPorts(from, to uint16, behind ...byte) []byte {
	b := binary.BigEndian.AppendUint16(nil, from)
	b = binary.BigEndian.AppendUint16(b, to)
	return append(b, behind...)
}

// udp is a datagram with a sum that is wrong.
func udp(src, dst api.Addr, from, to uint16) api.Packet {
	return bare(tup(src, dst, 17, from, to), withPorts(from, to, 0, 8, 1, 2)...)
}

func tcp(src, dst api.Addr, from, to uint16, flags byte) api.Packet {
	return bare(tup(src, dst, 6, from, to), withPorts(from, to, 1, 2, 3, 4, 5, 6, 7, 8, 0x50, flags, 9, 10, 11, 12, 13, 14)...)
}

// control is a message of that type and code with a number where echoes have theirs, and a sum that is wrong.
func control(src, dst api.Addr, typ, code byte, n uint16) api.Packet {
	return bare(tup(src, dst, 1, n, n), typ, code, 1, 2, byte(n>>8), byte(n), 3, 4)
}

func ping(src, dst api.Addr, n uint16) api.Packet { return control(src, dst, 8, 0, n) }

func pong(src, dst api.Addr, n uint16) api.Packet { return control(src, dst, 0, 0, n) }

// of is a packet of a tuple: a segment with those flags, an echo request or a datagram.
func of(u api.Tuple, flags byte) api.Packet {
	switch u.Proto {
	case 6:
		return tcp(u.Src, u.Dst, u.SrcPort, u.DstPort, flags)
	case 1:
		return ping(u.Src, u.Dst, u.SrcPort)
	}
	return udp(u.Src, u.Dst, u.SrcPort, u.DstPort)
}

// first is a packet that may open a flow.
func first(u api.Tuple) api.Packet { return of(u, 0x02) }

// telling is a fault from C to D about a packet with the head h; it quotes these bytes behind the head, which may be fewer than the head tells.
func telling(typ, code byte, h api.Head, quoted ...byte) api.Packet {
	whole, err := ip4.Build(api.Packet{Head: h, Body: make([]byte, 64)})
	if err != api.OK {
		panic("a test quotes a header that may not be")
	}
	body, _ := icmp.Build(api.Control{Type: typ, Code: code, Rest: 77, Body: append(whole[:len(whole)-64:len(whole)-64], quoted...)})
	return bare(tup(hostC, hostD, 1, 0, 0), body...)
}

// about is a fault about a packet, made by icmp.Fault.
func about(t *testing.T, p api.Packet, typ, code byte, from api.Addr) api.Packet {
	t.Helper()
	f, err := icmp.Fault(p, typ, code, 0, from)
	if err != api.OK {
		t.Fatalf("icmp.Fault = %d", err)
	}
	return f
}

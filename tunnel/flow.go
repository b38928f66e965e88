package tunnel

import (
	"weft/api"
	"weft/ip4"
)

const (
	firstPort = 49152
	ports     = 16384
)

const (
	mixFactor  = 251
	mixModulus = 65521
)

// Flow is the source port of a frame's flow.
func Flow(f api.Frame) uint16 {
	if f.Type == api.TypeIPv4 {
		if p, err := ip4.Parse(f.Body); err == api.OK {
			return portOf(packetKey(p.Head))
		}
	}
	return portOf(frameKey(f))
}

// packetKey is what the packets of one conversation have in common, pieces too.
func packetKey(h api.Head) []byte {
	var key [9]byte
	write(key[0:4], h.Src)
	write(key[4:8], h.Dst)
	key[8] = h.Proto
	return key[:]
}

func frameKey(f api.Frame) []byte {
	var key [12]byte
	copy(key[0:6], f.Src[:])
	copy(key[6:12], f.Dst[:])
	return key[:]
}

func portOf(key []byte) uint16 {
	return firstPort + uint16(mix(key)%ports)
}

func mix(key []byte) uint32 {
	h := uint32(1)
	for _, b := range key {
		h = (h*mixFactor + uint32(b) + 1) % mixModulus
	}
	return h
}

package nat

import "weft/api"

const maxBackends = 256

// The numbers by which a weight is made.
const (
	firstHash  = 14695981039346656037
	byteFactor = 1099511628211
	lastFactor = 11400714819323198485
)

// Pick tells which backend a flow goes to.
func Pick(t api.Tuple, backends ...api.Backend) (int, api.Errno) {
	switch {
	case len(backends) > maxBackends:
		return 0, api.ErrLong
	case len(backends) == 0:
		return 0, api.ErrBackend
	}
	flow := hashOf(t)
	best, most := 0, weight(flow, backends[0])
	for i, b := range backends {
		if w := weight(flow, b); w > most {
			best, most = i, w
		}
	}
	return best, api.OK
}

// hashOf is what a tuple alone has made of the hash, the same for all backends.
func hashOf(t api.Tuple) uint64 {
	h := hash32(firstHash, uint32(t.Src))
	h = hash32(h, uint32(t.Dst))
	h = hash8(h, t.Proto)
	h = hash16(h, t.SrcPort)
	return hash16(h, t.DstPort)
}

// weight mixes the hash at its end: alone it hardly brings the last bytes into its high bits.
func weight(flow uint64, b api.Backend) uint64 {
	h := hash16(hash32(flow, uint32(b.Addr)), b.Port)
	h ^= h >> 32
	h *= lastFactor
	return h ^ h>>29
}

func hash8(h uint64, b byte) uint64 {
	return (h ^ uint64(b)) * byteFactor
}

func hash16(h uint64, v uint16) uint64 {
	return hash8(hash8(h, byte(v>>8)), byte(v))
}

func hash32(h uint64, v uint32) uint64 {
	return hash16(hash16(h, uint16(v>>16)), uint16(v))
}

package nat

import (
	"math/bits"

	"weft/api"
)

const (
	wordBits  = 64
	portWords = 1 << 16 / wordBits
)

// Ports holds which ports are taken.
type Ports struct {
	lo, hi int
	taken  map[byte]*portSet // by protocol; none of one of which no port is taken
}

// portSet is the taken ports of one protocol: a bit each, and how many they are.
type portSet struct {
	words [portWords]uint64
	count int
}

// New gives ports of which none is taken.
func New(lo, hi uint16) (*Ports, api.Errno) {
	if lo == 0 || lo > hi {
		return nil, api.ErrArg
	}
	return &Ports{lo: int(lo), hi: int(hi)}, api.OK
}

// Take takes a port, the wanted one if it is free.
func (p *Ports) Take(proto byte, want uint16) (uint16, api.Errno) {
	set := p.setOf(proto)
	port, free := p.search(set, int(want))
	if !free {
		return 0, api.ErrPort
	}
	set.turn(port)
	set.count++
	return uint16(port), api.OK
}

// setOf is a protocol's set, which is made where there is none. (Then a port of it is free, and it does not stay empty.)
func (p *Ports) setOf(proto byte) *portSet {
	if p.taken == nil {
		p.taken = map[byte]*portSet{}
	}
	set := p.taken[proto]
	if set == nil {
		set = &portSet{}
		p.taken[proto] = set
	}
	return set
}

// search looks for a free port from the wanted one on, round and round; where it is none of these ports, from the first on.
func (p *Ports) search(set *portSet, want int) (int, bool) {
	if want < p.lo || want > p.hi {
		want = p.lo
	}
	port, free := set.firstFree(want, p.hi)
	if !free {
		port, free = set.firstFree(p.lo, want-1)
	}
	return port, free
}

// Give gives a port back.
func (p *Ports) Give(proto byte, port uint16) api.Errno {
	set := p.taken[proto]
	if set == nil || !set.has(int(port)) {
		return api.ErrPort
	}
	set.turn(int(port))
	set.count--
	if set.count == 0 {
		delete(p.taken, proto)
	}
	return api.OK
}

// Taken tells how many ports are taken.
func (p *Ports) Taken(proto byte) int {
	set := p.taken[proto]
	if set == nil {
		return 0
	}
	return set.count
}

func (s *portSet) has(port int) bool {
	return s.words[port/wordBits]>>(port%wordBits)&1 == 1
}

// turn takes a port that is free, and frees one that is taken.
func (s *portSet) turn(port int) {
	s.words[port/wordBits] ^= 1 << (port % wordBits)
}

// firstFree is the first free port of a stretch, found word by word; false, if there is none.
func (s *portSet) firstFree(from, to int) (int, bool) {
	for from <= to {
		free := ^s.words[from/wordBits] >> (from % wordBits)
		if free != 0 {
			port := from + bits.TrailingZeros64(free)
			return port, port <= to
		}
		from += wordBits - from%wordBits
	}
	return 0, false
}

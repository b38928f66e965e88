package policy

import (
	"math/bits"
	"strconv"
	"strings"

	"weft/addr"
	"weft/api"
)

const stretch = "-" // between the first and the last of some ports

// readCondition reads the word behind a condition's own.
func readCondition(on int, word string) (condition, bool) {
	s, ok := readSpan(on, word)
	if !ok {
		return condition{}, false
	}
	return condition{takes: s, holds: holdsOn(on, s)}, true
}

func readSpan(on int, word string) (span, bool) {
	switch on {
	case onSrc, onDst:
		return readPrefix(word)
	case onProto:
		return readProtocol(word)
	case onState:
		n, ok := meaning(aState, word)
		return span{n, n}, ok
	}
	return readPorts(word, greatest[on])
}

func readPrefix(word string) (span, bool) {
	p, err := addr.ParsePrefix(word)
	if err != api.OK {
		return span{}, false
	}
	low, high, _ := addr.Span(p)
	return span{int(low), int(high)}, true
}

func readProtocol(word string) (span, bool) {
	n, ok := meaning(aProtocol, word)
	if !ok {
		n, ok = readNumber(word, greatest[onProto])
	}
	return span{n, n}, ok
}

func readPorts(word string, most int) (span, bool) {
	first, last, two := strings.Cut(word, stretch)
	if !two {
		last = first
	}
	low, lowRead := readNumber(first, most)
	high, highRead := readNumber(last, most)
	return span{low, high}, lowRead && highRead && low <= high
}

// holdsOn gives what tells whether a condition on a field holds for a packet.
func holdsOn(on int, s span) func(api.Match) bool {
	switch on {
	case onSrc:
		return func(m api.Match) bool { return s.has(int(m.Tuple.Src)) }
	case onDst:
		return func(m api.Match) bool { return s.has(int(m.Tuple.Dst)) }
	case onProto:
		return func(m api.Match) bool { return s.has(int(m.Tuple.Proto)) }
	case onSrcPort:
		return func(m api.Match) bool { return hasPorts(m) && s.has(int(m.Tuple.SrcPort)) }
	case onDstPort:
		return func(m api.Match) bool { return hasPorts(m) && s.has(int(m.Tuple.DstPort)) }
	}
	return func(m api.Match) bool { return s.has(stateOf(m)) }
}

func hasPorts(m api.Match) bool {
	return m.Tuple.Proto == api.ProtoTCP || m.Tuple.Proto == api.ProtoUDP
}

func stateOf(m api.Match) int {
	if m.Known {
		return known
	}
	return fresh
}

func wayOf(m api.Match) int {
	if m.Out {
		return outward
	}
	return inward
}

// word is the word that readSpan reads so.
func (s span) word(on int) string {
	switch on {
	case onSrc, onDst:
		text, _ := addr.FormatPrefix(api.Prefix{Addr: api.Addr(s.low), Len: 32 - bits.Len(uint(s.high-s.low))})
		return text
	case onProto:
		if text := wordFor(aProtocol, s.low); text != "" {
			return text
		}
	case onState:
		return wordFor(aState, s.low)
	}
	if s.low == s.high {
		return strconv.Itoa(s.low)
	}
	return strconv.Itoa(s.low) + stretch + strconv.Itoa(s.high)
}

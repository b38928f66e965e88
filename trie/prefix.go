package trie

import (
	"math/bits"

	"weft/api"
)

// common is the longest prefix that both p and q are inside; both are valid.
func common(p, q api.Prefix) api.Prefix {
	same := bits.LeadingZeros32(uint32(p.Addr ^ q.Addr))
	n := min(p.Len, q.Len, same)
	return api.Prefix{Addr: p.Addr &^ (^api.Addr(0) >> n), Len: n}
}

// half tells in which half of its prefix of length n an address lies: 0, the low one, or 1. A prefix of length 32 has no halves; 0 is told then.
func half(a api.Addr, n int) int {
	return int(a << n >> 31)
}

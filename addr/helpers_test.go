package addr

import (
	"slices"

	"weft/api"
)

const top = api.Addr(1<<32 - 1) // 255.255.255.255

// quad is the address of four bytes, made without the package's own reader.
func quad(a, b, c, d int) api.Addr {
	return api.Addr(a<<24 + b<<16 + c<<8 + d)
}

func prefix(a, b, c, d, n int) api.Prefix {
	return api.Prefix{Addr: quad(a, b, c, d), Len: n}
}

// neighbours is each text that one byte changed, put in or left out makes of s, and s itself.
func neighbours(s string) []string {
	list := []string{s}
	for i := range len(s) + 1 {
		for c := range 256 {
			list = append(list, s[:i]+string([]byte{byte(c)})+s[i:])
			if i < len(s) {
				list = append(list, s[:i]+string([]byte{byte(c)})+s[i+1:])
			}
		}
		if i < len(s) {
			list = append(list, s[:i]+s[i+1:])
		}
	}
	return list
}

// modelSpan is a prefix's first and last address in a wider type, where nothing wraps round; ok is false where the prefix is not valid.
func modelSpan(p api.Prefix) (lo, hi uint64, ok bool) {
	if p.Len < 0 || p.Len > 32 {
		return 0, 0, false
	}
	size := uint64(1) << (32 - p.Len)
	if uint64(p.Addr)%size != 0 {
		return 0, 0, false
	}
	return uint64(p.Addr), uint64(p.Addr) + size - 1, true
}

// modelList is what P1.7 and P1.8 say, word for word: the valid prefixes whose addresses are all wanted, without those that lie in a shorter one of the same kind, rising. Only addresses from base to base + len(wanted) - 1 may be wanted.
func modelList(base api.Addr, wanted []bool) []api.Prefix {
	var kind []api.Prefix
	for n := range 33 {
		size := uint64(1) << (32 - n)
		if size > uint64(len(wanted)) {
			continue
		}
		for i := range uint64(len(wanted)) - size + 1 {
			p := api.Prefix{Addr: base + api.Addr(i), Len: n}
			if _, _, ok := modelSpan(p); ok && !slices.Contains(wanted[i:i+size], false) {
				kind = append(kind, p)
			}
		}
	}
	var list []api.Prefix
	for _, p := range kind {
		if !slices.ContainsFunc(kind, func(q api.Prefix) bool { return q.Len < p.Len && modelWithin(p, q) }) {
			list = append(list, p)
		}
	}
	slices.SortFunc(list, func(p, q api.Prefix) int {
		if p.Addr != q.Addr {
			return int(int64(p.Addr) - int64(q.Addr))
		}
		return p.Len - q.Len
	})
	return list
}

// modelWithin tells whether q has all addresses of p; both are valid.
func modelWithin(p, q api.Prefix) bool {
	lo, hi, _ := modelSpan(p)
	from, to, _ := modelSpan(q)
	return from <= lo && hi <= to
}

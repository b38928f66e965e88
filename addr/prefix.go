package addr

import (
	"strconv"
	"strings"

	"weft/api"
)

// ParsePrefix reads an address with its length.
func ParsePrefix(s string) (api.Prefix, api.Errno) {
	// Without a stroke the length's text is empty, which is no number either.
	quad, length, _ := strings.Cut(s, "/")
	a, err := Parse(quad)
	n, width := leadingNumber(length, 32)
	if err != api.OK || width == 0 || width < len(length) {
		return api.Prefix{}, api.ErrPrefix
	}
	p := api.Prefix{Addr: a, Len: n}
	if err := check(p); err != api.OK {
		return api.Prefix{}, err
	}
	return p, api.OK
}

// FormatPrefix writes a prefix.
func FormatPrefix(p api.Prefix) (string, api.Errno) {
	if err := check(p); err != api.OK {
		return "", err
	}
	return Format(p.Addr) + "/" + strconv.Itoa(p.Len), api.OK
}

// check is OK for a valid prefix, and else tells why p is none.
func check(p api.Prefix) api.Errno {
	if p.Len < 0 || p.Len > 32 {
		return api.ErrPrefix
	}
	if p.Addr&bitsBehind(p.Len) != 0 {
		return api.ErrHostBits
	}
	return api.OK
}

// bitsBehind has just the bits behind the first n set; n is 0 to 32.
func bitsBehind(n int) api.Addr {
	return ^api.Addr(0) >> n
}

// lastOf is the last address of a valid prefix.
func lastOf(p api.Prefix) api.Addr {
	return p.Addr | bitsBehind(p.Len)
}

// Valid tells whether a prefix may be.
func Valid(p api.Prefix) bool {
	return check(p) == api.OK
}

// Span tells a prefix's first and last address.
func Span(p api.Prefix) (api.Addr, api.Addr, api.Errno) {
	if err := check(p); err != api.OK {
		return 0, 0, err
	}
	return p.Addr, lastOf(p), api.OK
}

// Contains tells whether an address lies in a prefix.
func Contains(p api.Prefix, a api.Addr) bool {
	return Valid(p) && p.Addr <= a && a <= lastOf(p)
}

// Package addr: addresses, prefixes and MACs as text, covers and merges: see doc/01-addr.md.
package addr

import (
	"strconv"

	"weft/api"
)

// Parse reads a dotted quad.
func Parse(s string) (api.Addr, api.Errno) {
	var a api.Addr
	rest := s
	for i := range 4 {
		if i > 0 {
			if rest == "" || rest[0] != '.' {
				return 0, api.ErrAddr
			}
			rest = rest[1:]
		}
		n, width := leadingNumber(rest, 255)
		if width == 0 {
			return 0, api.ErrAddr
		}
		a = a<<8 | api.Addr(n)
		rest = rest[width:]
	}
	if rest != "" {
		return 0, api.ErrAddr
	}
	return a, api.OK
}

// leadingNumber reads the decimal digits that s begins with: the number and how many digits it has. Both are 0 where there is no digit, a leading zero, or a number above most.
func leadingNumber(s string, most int) (int, int) {
	n, width := 0, 0
	for width < len(s) && s[width] >= '0' && s[width] <= '9' {
		n = n*10 + int(s[width]-'0')
		// Given up here, not behind the loop: a long run of digits would leave int.
		if n > most {
			return 0, 0
		}
		width++
	}
	if width > 1 && s[0] == '0' {
		return 0, 0
	}
	return n, width
}

// Format writes a dotted quad.
func Format(a api.Addr) string {
	return octet(a>>24) + "." + octet(a>>16) + "." + octet(a>>8) + "." + octet(a)
}

// octet writes the lowest byte of a in decimal digits.
func octet(a api.Addr) string {
	return strconv.Itoa(int(a & 255))
}

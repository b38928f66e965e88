package addr

import "weft/api"

const (
	macTextLen = 17 // six pairs of digits and the five colons between them
	smallHex   = "0123456789abcdef"
)

// ParseMAC reads six bytes in hex.
func ParseMAC(s string) (api.MAC, api.Errno) {
	if len(s) != macTextLen {
		return api.MAC{}, api.ErrMAC
	}
	var m api.MAC
	for i := range len(m) {
		at := 3 * i
		if i > 0 && s[at-1] != ':' {
			return api.MAC{}, api.ErrMAC
		}
		high, highOK := hexDigit(s[at])
		low, lowOK := hexDigit(s[at+1])
		if !highOK || !lowOK {
			return api.MAC{}, api.ErrMAC
		}
		m[i] = high<<4 | low
	}
	return m, api.OK
}

// hexDigit is the value of a hexadecimal digit, and whether c is one.
func hexDigit(c byte) (byte, bool) {
	switch {
	case c >= '0' && c <= '9':
		return c - '0', true
	case c >= 'a' && c <= 'f':
		return c - 'a' + 10, true
	case c >= 'A' && c <= 'F':
		return c - 'A' + 10, true
	}
	return 0, false
}

// FormatMAC writes six bytes in hex.
func FormatMAC(m api.MAC) string {
	text := make([]byte, 0, macTextLen)
	for i := range len(m) {
		if i > 0 {
			text = append(text, ':')
		}
		text = append(text, smallHex[m[i]>>4], smallHex[m[i]&15])
	}
	return string(text)
}

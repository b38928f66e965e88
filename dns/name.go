package dns

import (
	"strconv"
	"strings"

	"weft/api"
)

const (
	root     = "."
	dot      = '.'
	maxLabel = 63
	maxName  = 255         // bytes of a name
	maxText  = maxName - 2 // of its text, which has neither the first length byte nor the 0 at the end
)

// Equal tells whether two names are the same.
func Equal(a, b string) bool {
	return isName(a) && isName(b) && strings.EqualFold(a, b)
}

// Reverse is the name under which an address is asked for.
func Reverse(a api.Addr) string {
	var text []byte
	for range 4 {
		text = strconv.AppendUint(text, uint64(a&0xff), 10)
		text = append(text, dot)
		a >>= 8
	}
	return string(text) + "in-addr.arpa"
}

// isName tells whether a text is a name's.
func isName[T string | []byte](text T) bool {
	if len(text) > maxText {
		return false
	}
	if string(text) == root {
		return true
	}
	size := 0 // of the label so far
	for i := range len(text) {
		switch {
		case text[i] == dot && size > 0:
			size = 0
		case mayStand(text[i]) && size < maxLabel:
			size++
		default:
			return false
		}
	}
	return size > 0
}

// mayStand tells whether a byte may stand in a label.
func mayStand(c byte) bool {
	return 'a' <= c && c <= 'z' || 'A' <= c && c <= 'Z' || '0' <= c && c <= '9' || c == '-' || c == '_'
}

// holdsName tells whether the data of a type's records is a name.
func holdsName(typ uint16) bool {
	return typ == api.TypeCNAME || typ == api.TypePTR
}

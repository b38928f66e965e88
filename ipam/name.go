package ipam

// maxName is how many bytes a name may have.
const maxName = 63

// isName tells whether s may be a pod's name.
func isName(s string) bool {
	if s == "" || len(s) > maxName || s[0] == '-' || s[len(s)-1] == '-' {
		return false
	}
	// Byte by byte: a range over s would read bytes of 128 and above as runes.
	for i := range len(s) {
		if !isNameByte(s[i]) {
			return false
		}
	}
	return true
}

// isNameByte tells whether b may stand in the midst of a name.
func isNameByte(b byte) bool {
	return b >= 'a' && b <= 'z' || b >= '0' && b <= '9' || b == '-'
}

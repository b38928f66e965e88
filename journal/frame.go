package journal

const (
	headLen  = 16
	frameLen = 12 // of a frame without its record
	wordLen  = 4
)

// The first word of a head, "weft".
const mark = 0x77656674

// word is the number of four bytes, high byte first, at a place.
func word(b []byte, place int) uint32 {
	return uint32(b[place])<<24 | uint32(b[place+1])<<16 | uint32(b[place+2])<<8 | uint32(b[place+3])
}

// putWords lays numbers down side by side.
func putWords(to []byte, words ...uint32) {
	for i, w := range words {
		at := to[wordLen*i:]
		at[0], at[1], at[2], at[3] = byte(w>>24), byte(w>>16), byte(w>>8), byte(w)
	}
}

// putHead writes the head of an area.
func putHead(to []byte, gen, base uint32) {
	putWords(to, mark, gen, base)
	putWords(to[headLen-wordLen:], sumOf(to[:headLen-wordLen]))
}

// putFrame writes a record's frame.
func putFrame(to []byte, gen, number uint32, rec []byte) {
	n, sum := uint32(len(rec)), sumOf(rec)
	putWords(to, n, sum, seal(gen, number, n, sum))
	copy(to[frameLen:], rec)
}

// seal is a frame's third number. It binds the frame to its area and its place there, so that neither an older generation's frame nor one that was moved passes for it.
func seal(gen, number, n, sum uint32) uint32 {
	var b [4 * wordLen]byte
	putWords(b[:], gen, number, n, sum)
	return sumOf(b[:])
}

// framed is how many bytes a record takes in an area.
func framed(rec []byte) int {
	return frameLen + len(rec)
}

// baseLen is how many bytes a base of these records takes.
func baseLen(recs [][]byte) int {
	n := 0
	for _, r := range recs {
		n += framed(r)
	}
	return n
}

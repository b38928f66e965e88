package journal

import "weft/api"

// state is how much an area's bytes can be trusted.
type state int

const (
	short  state = iota // not even a head
	spoilt              // no crash leaves such bytes
	torn                // its base did not get down whole
	whole
)

// content is what an area's bytes tell. All but the state is of a whole area alone.
type content struct {
	state state
	gen   uint32
	recs  [][]byte // they lie in the area itself
	end   int
}

// readArea reads the bytes of an area.
func readArea(b []byte) content {
	if len(b) < headLen {
		return content{state: short}
	}
	if len(b) > api.MaxArea || !headFits(b) {
		return content{state: spoilt}
	}
	base := headLen + int(word(b, 2*wordLen))
	if len(b) < base {
		return content{state: torn}
	}
	return readFrames(b, base)
}

// headFits tells whether a head may stand ahead of an area's frames.
func headFits(b []byte) bool {
	sumAt := headLen - wordLen
	return word(b, 0) == mark && word(b, sumAt) == sumOf(b[:sumAt]) && word(b, 2*wordLen) <= api.MaxArea-headLen
}

// readFrames reads an area from its first frame on. base is the place where a frame must end.
func readFrames(b []byte, base int) content {
	c := content{state: whole, gen: word(b, wordLen), end: headLen}
	atBase := c.end == base
	for len(b)-c.end >= frameLen {
		left := b[c.end:]
		if !frameFits(left, c.gen, uint32(len(c.recs))) {
			return content{state: spoilt}
		}
		size := frameLen + int(word(left, 0))
		if len(left) < size {
			break
		}
		rec := left[frameLen:size]
		if sumOf(rec) != word(left, wordLen) {
			return content{state: spoilt}
		}
		c.recs = append(c.recs, rec)
		c.end += size
		atBase = atBase || c.end == base
	}
	if !atBase {
		return content{state: spoilt}
	}
	return c
}

// frameFits tells whether a frame's numbers may stand there, whether or not its record got down.
func frameFits(b []byte, gen, number uint32) bool {
	n, sum := word(b, 0), word(b, wordLen)
	return word(b, 2*wordLen) == seal(gen, number, n, sum) && n <= api.MaxRecord
}

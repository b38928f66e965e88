package ip4

const modulus = 1<<16 - 1

// Sum is the checksum of the joined parts.
func Sum(parts ...[]byte) uint16 {
	var total uint64
	odd := false // whether the joined bytes so far end within a word
	for _, part := range parts {
		if odd && len(part) > 0 {
			total += uint64(part[0])
			part, odd = part[1:], false
		}
		for len(part) >= 2 {
			total += uint64(read16(part))
			part = part[2:]
		}
		if len(part) > 0 {
			total += uint64(part[0]) << 8
			odd = true
		}
	}
	return complement(total)
}

// Adjust is the checksum where one word turns into another.
func Adjust(sum, old, next uint16) uint16 {
	return complement(uint64(modulus-sum) + uint64(modulus-old) + uint64(next))
}

// complement folds an exact sum of words to one word, and turns its bits over. A sum above 0 never folds to 0: that is what tells it from no sum at all.
func complement(total uint64) uint16 {
	if total == 0 {
		return modulus
	}
	return uint16(modulus - 1 - (total-1)%modulus)
}

package tunnel

// unsigned is the kinds of numbers that a field may hold.
type unsigned interface {
	~uint | ~uint8 | ~uint16 | ~uint32 | ~uint64
}

const bitsOfByte = 8

// read is the number in a field. The field tells its width itself: a VNI's three bytes are the width of no kind.
func read[T unsigned](field []byte) T {
	var v T
	for i, b := range field {
		v |= T(b) << bitsBehind(field, i)
	}
	return v
}

// write fills a field, as wide as it is, with a number that has room in it.
func write[T unsigned](field []byte, v T) {
	for i := range field {
		field[i] = byte(v >> bitsBehind(field, i))
	}
}

// bitsBehind counts the bits of a field behind its byte i.
func bitsBehind(field []byte, i int) int {
	return bitsOfByte * (len(field) - 1 - i)
}

// join lays a head and what it is the head of into one new block.
func join(head, body []byte) []byte {
	b := make([]byte, len(head)+len(body))
	copy(b, head)
	copy(b[len(head):], body)
	return b
}

// copied is the bytes in memory of their own.
func copied(b []byte) []byte {
	own := make([]byte, len(b))
	copy(own, b)
	return own
}

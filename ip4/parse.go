package ip4

import "weft/api"

// Parse reads a packet.
func Parse(b []byte) (api.Packet, api.Errno) {
	size, total, err := examine(b, true)
	if err != api.OK {
		return api.Packet{}, err
	}
	head, body := unpack(b[:total], size)
	return api.Packet{Head: head, Body: body}, api.OK
}

// Peek reads what there is of a packet whose end may be missing.
func Peek(b []byte) (api.Head, []byte, api.Errno) {
	size, total, err := examine(b, false)
	if err != api.OK {
		return api.Head{}, nil, err
	}
	head, body := unpack(b[:min(total, len(b))], size)
	return head, body, api.OK
}

// examine tells the header's size and the total length of the packet at b's front, or the first fault; whole: the body's end may not be missing.
func examine(b []byte, whole bool) (size, total int, err api.Errno) {
	if size, total, err = examineLengths(b, whole); err != api.OK {
		return 0, 0, err
	}
	if err = examineHeader(b[:size], total-size); err != api.OK {
		return 0, 0, err
	}
	return size, total, api.OK
}

func examineLengths(b []byte, whole bool) (size, total int, err api.Errno) {
	if len(b) < fixedSize {
		return 0, 0, api.ErrShort
	}
	if b[atShape]>>4 != version {
		return 0, 0, api.ErrVersion
	}
	size = int(b[atShape]&0x0f) * wordSize
	total = int(read16(b[atTotal:]))
	switch {
	case size < fixedSize:
		return 0, 0, api.ErrHead
	case len(b) < size:
		return 0, 0, api.ErrShort
	case total < size:
		return 0, 0, api.ErrHead
	case whole && len(b) < total:
		return 0, 0, api.ErrShort
	}
	return size, total, api.OK
}

// examineHeader takes the body's length as it is told, since its end may be missing.
func examineHeader(header []byte, bodySize int) api.Errno {
	fragment := read16(header[atFragment:])
	switch {
	case Sum(header) != 0:
		return api.ErrSum
	case fragment&reservedFlag != 0:
		return api.ErrHead
	case !isOptionArea(header[fixedSize:]):
		return api.ErrOpts
	case !pieceInOrder(offset(fragment), bodySize, fragment&moreFollow != 0):
		return api.ErrOff
	}
	return api.OK
}

func offset(fragment uint16) int {
	return int(fragment&offsetMask) * offsetStep
}

// unpack takes a packet apart that was found good. Options and body lie in one new block, each with no room behind it, so that an append to one cannot reach the other.
func unpack(b []byte, size int) (api.Head, []byte) {
	block := make([]byte, len(b)-fixedSize)
	copy(block, b[fixedSize:])
	cut, end := size-fixedSize, len(block)
	fragment := read16(b[atFragment:])
	head := api.Head{
		TOS:   b[atTOS],
		ID:    read16(b[atID:]),
		DF:    fragment&doNotSplit != 0,
		MF:    fragment&moreFollow != 0,
		Off:   offset(fragment),
		TTL:   b[atTTL],
		Proto: b[atProto],
		Src:   api.Addr(read32(b[atSrc:])),
		Dst:   api.Addr(read32(b[atDst:])),
		Opts:  block[:cut:cut],
	}
	return head, block[cut:end:end]
}

package ip4

import "weft/api"

// Build writes a packet.
func Build(p api.Packet) ([]byte, api.Errno) {
	size := fixedSize + len(p.Head.Opts)
	total := size + len(p.Body)
	switch {
	case !isOptionArea(p.Head.Opts):
		return nil, api.ErrOpts
	case !pieceInOrder(p.Head.Off, len(p.Body), p.Head.MF):
		return nil, api.ErrOff
	case total > maxTotal:
		return nil, api.ErrBig
	}
	b := make([]byte, total)
	layHead(b, p.Head)
	copy(b[fixedSize:], p.Head.Opts)
	copy(b[size:], p.Body)
	sealHeader(b[:size])
	return b, api.OK
}

// Age lowers the time to live.
func Age(b []byte) ([]byte, api.Errno) {
	size, total, err := examine(b, true)
	if err != api.OK {
		return nil, err
	}
	if b[atTTL] < minLiveTTL {
		return nil, api.ErrAge
	}
	aged := make([]byte, total)
	copy(aged, b)
	aged[atTTL]--
	sealHeader(aged[:size])
	return aged, api.OK
}

// layHead writes the fields in front of the options, all but the sum, into the bytes of a whole packet.
func layHead(b []byte, h api.Head) {
	b[atShape] = version<<4 | byte((fixedSize+len(h.Opts))/wordSize)
	b[atTOS] = h.TOS
	write16(b[atTotal:], uint16(len(b)))
	write16(b[atID:], h.ID)
	write16(b[atFragment:], fragmentField(h))
	b[atTTL] = h.TTL
	b[atProto] = h.Proto
	write32(b[atSrc:], uint32(h.Src))
	write32(b[atDst:], uint32(h.Dst))
}

func fragmentField(h api.Head) uint16 {
	field := uint16(h.Off / offsetStep)
	if h.DF {
		field |= doNotSplit
	}
	if h.MF {
		field |= moreFollow
	}
	return field
}

// sealHeader sums the header around the sum's own field, whatever stands in it: a field that is 65535 for 0 does not live on.
func sealHeader(header []byte) {
	write16(header[atSum:], Sum(header[:atSum], header[behindSum:]))
}

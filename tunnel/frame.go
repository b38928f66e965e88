package tunnel

import "weft/api"

const maxFrame = 65499

// Where the fields of a frame begin; each ends where the next begins.
const (
	atFrameDst  = 0
	atFrameSrc  = 6
	atFrameType = 12
	frameHead   = 14
)

const (
	minType    = 0x0600 // below it a frame's length stands there
	tagged     = 0x8100
	tagOutside = 0x88a8 // a tag ahead of another tag
)

// ParseFrame reads a frame.
func ParseFrame(b []byte) (api.Frame, api.Errno) {
	switch {
	case len(b) > maxFrame:
		return api.Frame{}, api.ErrLong
	case len(b) < frameHead:
		return api.Frame{}, api.ErrFrame
	}
	f := api.Frame{Type: read[uint16](b[atFrameType:frameHead])}
	if err := checkType(f.Type); err != api.OK {
		return api.Frame{}, err
	}
	copy(f.Dst[:], b[atFrameDst:atFrameSrc])
	copy(f.Src[:], b[atFrameSrc:atFrameType])
	f.Body = copied(b[frameHead:])
	return f, api.OK
}

// BuildFrame writes a frame.
func BuildFrame(f api.Frame) ([]byte, api.Errno) {
	if len(f.Body) > maxFrame-frameHead {
		return nil, api.ErrLong
	}
	if err := checkType(f.Type); err != api.OK {
		return nil, err
	}
	var head [frameHead]byte
	copy(head[atFrameDst:], f.Dst[:])
	copy(head[atFrameSrc:], f.Src[:])
	write(head[atFrameType:frameHead], f.Type)
	return join(head[:], f.Body), api.OK
}

// checkType tells why a frame may not have that type.
func checkType(typ uint16) api.Errno {
	switch {
	case typ < minType:
		return api.ErrFrame
	case typ == tagged || typ == tagOutside:
		return api.ErrVlan
	}
	return api.OK
}

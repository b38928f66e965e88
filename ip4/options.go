package ip4

import "weft/api"

const (
	endOption = 0
	noOption  = 1
	copyBit   = 0x80 // set in the kind of an option that every piece of a packet carries
)

// Copied is the options that later fragments carry.
func Copied(opts []byte) ([]byte, api.Errno) {
	var copied []byte
	if !walkOptions(opts, func(option []byte) {
		if option[0]&copyBit != 0 {
			copied = append(copied, option...)
		}
	}) {
		return nil, api.ErrOpts
	}
	for len(copied)%wordSize != 0 {
		copied = append(copied, endOption)
	}
	return copied, api.OK
}

func isOptionArea(area []byte) bool {
	return walkOptions(area, func([]byte) {})
}

// walkOptions shows each option of an area, No-ops too, and tells whether it is an option area to its end.
func walkOptions(area []byte, show func(option []byte)) bool {
	if len(area) > maxOptions || len(area)%wordSize != 0 {
		return false
	}
	for len(area) > 0 && area[0] != endOption {
		size := optionSize(area)
		if size == 0 {
			return false
		}
		show(area[:size])
		area = area[size:]
	}
	return allZero(area)
}

// optionSize is how many bytes the first option of the rest of an area has, 0 if it is none.
func optionSize(rest []byte) int {
	if rest[0] == noOption {
		return 1
	}
	if len(rest) < 2 || rest[1] < 2 || int(rest[1]) > len(rest) {
		return 0
	}
	return int(rest[1])
}

func allZero(b []byte) bool {
	for _, v := range b {
		if v != 0 {
			return false
		}
	}
	return true
}

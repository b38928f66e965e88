package icmp

const (
	echoReply   = 0
	echoRequest = 8
	echoCode    = 0 // of both
)

const (
	unreachable = iota + 3
	quench
	redirect
)

const (
	timeExceeded = iota + 11
	parameterProblem
	behindKinds // the first type of which kinds tells nothing
)

// The codes of faults that carry an argument.
const (
	tooLong = 4 // unreachable: the argument is the MTU of the next hop
	pointer = 0 // parameterProblem: the argument is the place in the header
)

const (
	maxMTU       = 1<<16 - 1
	maxPlace     = 1<<8 - 1
	pointerShift = 24 // a place lies in the first byte of Rest
)

// kind is what a type of messages is. Quenches and redirects are faults too, but none that this network tells: they have no codes.
type kind struct {
	fault bool
	codes byte // how many, from 0 on
}

var kinds = [behindKinds]kind{
	unreachable:      {fault: true, codes: 16},
	quench:           {fault: true, codes: 0},
	redirect:         {fault: true, codes: 0},
	timeExceeded:     {fault: true, codes: 2},
	parameterProblem: {fault: true, codes: 3},
}

func kindOf(typ byte) kind {
	if typ >= behindKinds {
		return kind{}
	}
	return kinds[typ]
}

func isFault(typ byte) bool {
	return kindOf(typ).fault
}

// mayTell tells whether there is a fault to tell of that type and code with that argument.
func mayTell(typ, code byte, arg int) bool {
	return code < kindOf(typ).codes && arg >= 0 && arg <= maxArg(typ, code)
}

func maxArg(typ, code byte) int {
	switch {
	case typ == unreachable && code == tooLong:
		return maxMTU
	case typ == parameterProblem && code == pointer:
		return maxPlace
	}
	return 0
}

// restOf is the four bytes of a fault that carry its argument.
func restOf(typ byte, arg int) uint32 {
	if typ == parameterProblem {
		return uint32(arg) << pointerShift
	}
	return uint32(arg)
}

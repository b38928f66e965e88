package flow

import "weft/api"

// spans tells for how long a flow is kept behind its last move, by its state.
var spans = [api.Flows]int64{
	api.FThere:   30,
	api.FBoth:    180,
	api.FSyn:     120,
	api.FSynAck:  60,
	api.FOpen:    432000,
	api.FFin:     120,
	api.FFinBack: 120,
	api.FLast:    60,
	api.FClosed:  10,
}

const echoesSpan = 30 // of FBoth

func spanOf(f api.Flow) int64 {
	if f.State == api.FBoth && f.There.Proto == api.ProtoICMP {
		return echoesSpan
	}
	return spans[f.State]
}

// The flags of a segment that tell its kind.
const (
	flagFIN = 0x01
	flagSYN = 0x02
	flagRST = 0x04
	flagACK = 0x10
)

// The kinds of segments.
const (
	plain = iota // it moves no flow
	reset
	syn
	synAck
	fin
	ack
	kinds // one above the last
)

func (s segment) kind() int {
	switch {
	case s.has(flagRST):
		return reset
	case s.has(flagSYN) && s.has(flagACK):
		return synAck
	case s.has(flagSYN):
		return syn
	case s.has(flagFIN):
		return fin
	case s.has(flagACK):
		return ack
	}
	return plain
}

func (s segment) has(flag byte) bool {
	return s.flags&flag != 0
}

// moves is the state that a segment of each kind brings a flow to; 0, where it moves none.
type moves [kinds]byte

// turns is how the flows of segments move, by their states, but for resets, which close all.
var turns = [api.Flows]struct{ there, back moves }{
	api.FSyn: {
		there: moves{syn: api.FSyn},
		back:  moves{synAck: api.FSynAck},
	},
	api.FSynAck: {
		there: moves{fin: api.FFin, ack: api.FOpen},
		back:  moves{synAck: api.FSynAck, fin: api.FFinBack},
	},
	api.FOpen: {
		there: moves{fin: api.FFin, ack: api.FOpen},
		back:  moves{fin: api.FFinBack, ack: api.FOpen},
	},
	api.FFin: {
		there: moves{fin: api.FFin, ack: api.FFin},
		back:  moves{fin: api.FLast, ack: api.FFin},
	},
	api.FFinBack: {
		there: moves{fin: api.FLast, ack: api.FFinBack},
		back:  moves{fin: api.FFinBack, ack: api.FFinBack},
	},
	api.FLast: {
		there: moves{syn: api.FSyn, fin: api.FLast, ack: api.FLast},
		back:  moves{fin: api.FLast, ack: api.FLast},
	},
	api.FClosed: {
		there: moves{syn: api.FSyn},
	},
}

// stateBehind is the state of a flow behind a packet of its own with that inside; false, if the packet does not move it.
func stateBehind(state int, inside content, back bool) (int, bool) {
	switch c := inside.(type) {
	case datagram, echo:
		return exchanged(state, back), true
	case segment:
		return c.turn(state, back)
	}
	return 0, false
}

func exchanged(state int, back bool) int {
	if back {
		return api.FBoth
	}
	return state
}

func (s segment) turn(state int, back bool) (int, bool) {
	kind := s.kind()
	if kind == reset {
		return api.FClosed, true
	}
	way := turns[state].there
	if back {
		way = turns[state].back
	}
	return int(way[kind]), way[kind] != 0
}

// firstState is the state of a flow that begins with a packet with that inside; false, if none may.
func firstState(inside content) (int, bool) {
	switch c := inside.(type) {
	case datagram:
		return api.FThere, true
	case echo:
		return api.FThere, c.request
	case segment:
		return api.FSyn, c.kind() == syn && !c.has(flagFIN)
	}
	return 0, false
}

package flow

import (
	"testing"

	"weft/api"
)

// A way to each state from FSyn on: the segments, each its flags, those back below 0.
func waysTo() map[int][]int {
	return map[int][]int{
		api.FSyn:     {},
		api.FSynAck:  {-0x12},
		api.FOpen:    {-0x12, 0x10},
		api.FFin:     {-0x12, 0x10, 0x11},
		api.FFinBack: {-0x12, 0x10, -0x11},
		api.FLast:    {-0x12, 0x10, 0x11, -0x11},
		api.FClosed:  {0x04},
	}
}

// spansOf is the chapter's spans, of segments' flows.
func spansOf() map[int]int64 {
	return map[int]int64{api.FSyn: 120, api.FSynAck: 60, api.FOpen: 432000, api.FFin: 120, api.FFinBack: 120, api.FLast: 60, api.FClosed: 10}
}

// brought is a table whose only flow, of u and back, is in a state since the tick now.
func brought(t *testing.T, state int, u, back api.Tuple, now int64) both {
	t.Helper()
	b := begun(t, 1)
	b.open(u, back, first(u), now)
	for _, flags := range waysTo()[state] {
		if flags < 0 {
			b.move(of(back, byte(-flags)), now)
		} else {
			b.move(of(u, byte(flags)), now)
		}
	}
	if f := b.list()[0]; f.State != state || f.Until != now+spansOf()[state] {
		t.Fatalf("P21.5: %v, want state %d at %d", f, state, now)
	}
	return b
}

// moved holds a move's answer against a state and an end that are said; what is held then is the answer.
func (b both) moved(p api.Packet, now int64, state int, until int64) {
	b.t.Helper()
	f, err := b.move(p, now)
	if err != api.OK || f.State != state || f.Until != until {
		b.t.Errorf("P21.5: Move(%v, %d) = %v, %d, want state %d, until %d", p, now, f, err, state, until)
	}
	found := false
	for _, g := range b.list() {
		found = found || g == f
	}
	if !found {
		b.t.Errorf("P21.5: Move answers %v, and held are %v", f, b.list())
	}
}

// then is the state that a segment of a kind brings a flow to, said state by state; 0, where it moves none.
func then(state int, kind string, back bool) int {
	if kind == "R" {
		return api.FClosed
	}
	switch state {
	case api.FSyn:
		if kind == "S" && !back {
			return api.FSyn
		}
		if kind == "SA" && back {
			return api.FSynAck
		}
	case api.FSynAck:
		switch {
		case kind == "SA" && back:
			return api.FSynAck
		case kind == "A" && !back:
			return api.FOpen
		case kind == "F" && !back:
			return api.FFin
		case kind == "F":
			return api.FFinBack
		}
	case api.FOpen:
		switch {
		case kind == "A":
			return api.FOpen
		case kind == "F" && !back:
			return api.FFin
		case kind == "F":
			return api.FFinBack
		}
	case api.FFin:
		switch {
		case kind == "A", kind == "F" && !back:
			return api.FFin
		case kind == "F":
			return api.FLast
		}
	case api.FFinBack:
		switch {
		case kind == "A", kind == "F" && back:
			return api.FFinBack
		case kind == "F":
			return api.FLast
		}
	case api.FLast:
		switch {
		case kind == "A", kind == "F":
			return api.FLast
		case kind == "S" && !back:
			return api.FSyn
		}
	case api.FClosed:
		if kind == "S" && !back {
			return api.FSyn
		}
	}
	return 0
}

// Each state, each set of flags, there and back.
func TestP21_5EachStateEachFlags(t *testing.T) {
	u, other := tup(hostA, hostB, 6, 5, 80), tup(hostD, hostC, 6, 9, 7)
	for state, span := range spansOf() {
		for flags := range 256 {
			for _, back := range []api.Tuple{turned(u), other} {
				for _, now := range []int64{50, 0, 1000} {
					for _, way := range []api.Tuple{u, back} {
						b := brought(t, state, u, back, 100)
						want := then(state, kindOf(flags), way == back)
						if want == 0 {
							b.moved(of(way, byte(flags)), now, state, 100+span)
						} else {
							b.moved(of(way, byte(flags)), now, want, now+spansOf()[want])
						}
					}
				}
			}
		}
	}
}

// kindOf tells a kind by the words of the chapter, one flag after the other.
func kindOf(flags int) string {
	fin, syn, rst, ack := flags&1 == 1, flags>>1&1 == 1, flags>>2&1 == 1, flags>>4&1 == 1
	if rst {
		return "R"
	}
	if syn && ack {
		return "SA"
	}
	if syn {
		return "S"
	}
	if fin {
		return "F"
	}
	if ack {
		return "A"
	}
	return "N"
}

// Datagrams and echoes in both states, there and back.
func TestP21_5Exchanged(t *testing.T) {
	for _, row := range []struct {
		proto byte
		both  int64
	}{{17, 180}, {1, 30}} {
		for _, back := range []api.Tuple{tup(hostB, hostA, row.proto, 7, 7), tup(hostD, hostC, row.proto, 9, 9)} {
			u := tup(hostA, hostB, row.proto, 7, 7)
			b := begun(t, 1)
			b.open(u, back, first(u), 100)
			b.moved(of(u, 0), 110, api.FThere, 140)
			b.moved(of(u, 0), 90, api.FThere, 120)
			b.moved(of(back, 0), 95, api.FBoth, 95+row.both)
			b.moved(of(u, 0), 80, api.FBoth, 80+row.both)
			b.moved(of(back, 0), 300, api.FBoth, 300+row.both)
			b.moved(of(back, 0), 299, api.FBoth, 299+row.both)
			b.moved(of(u, 0), -7, api.FBoth, -7+row.both)
			b.check()
		}
	}
}

// A request and a reply move a flow alike: which way they go is what counts.
func TestP21_5Echoes(t *testing.T) {
	u := tup(hostA, hostB, 1, 7, 7)
	b := begun(t, 1).opens(0, u)
	b.moved(pong(hostA, hostB, 7), 1, api.FThere, 31)
	b.moved(ping(hostA, hostB, 7), 2, api.FThere, 32)
	b.moved(ping(hostB, hostA, 7), 3, api.FBoth, 33)
	b.moved(ping(hostA, hostB, 7), 4, api.FBoth, 34)
	b.moved(pong(hostA, hostB, 7), 5, api.FBoth, 35)
	b.moved(pong(hostB, hostA, 7), 6, api.FBoth, 36)
	b = begun(t, 1).opens(0, u)
	b.moved(pong(hostB, hostA, 7), 3, api.FBoth, 33)
}

// A segment's other bytes are not looked at.
func TestP21_5FlagsPlace(t *testing.T) {
	u := tup(hostA, hostB, 6, 5, 80)
	for at := 4; at < 24; at++ {
		for _, v := range []byte{0x04, 0x10, 0xff} {
			b := brought(t, api.FSynAck, u, turned(u), 0)
			p := bare(u, append(withPorts(5, 80), make([]byte, 20)...)...)
			p.Body[at] = v
			switch {
			case at != 13:
				b.moved(p, 9, api.FSynAck, 60)
			case v == 0x10:
				b.moved(p, 9, api.FOpen, 432009)
			default:
				b.moved(p, 9, api.FClosed, 19)
			}
		}
	}
}

// The end of each state's span, at and beside the ends of int64.
func TestP21_5TheEnds(t *testing.T) {
	u := tup(hostA, hostB, 6, 5, 80)
	again := map[int]int{api.FSyn: 2, api.FSynAck: -0x12, api.FOpen: 0x10, api.FFin: 0x10, api.FFinBack: 0x10, api.FLast: 0x10, api.FClosed: 4} // each of these leaves the state as it is
	for state, span := range spansOf() {
		b := brought(t, state, u, turned(u), 0)
		p := of(u, byte(again[state]))
		if again[state] < 0 {
			p = of(turned(u), byte(-again[state]))
		}
		for _, now := range []int64{most, most - 1, most - span + 1, most - span} {
			b.moved(p, now, state, most)
		}
		b.moved(p, most-span-1, state, most-1)
		b.moved(p, least, state, least+span)
		b.moved(p, least+1, state, least+1+span)
		b.moved(p, -span, state, 0)
	}
	for _, row := range []struct {
		proto byte
		span  int64
	}{{17, 180}, {1, 30}} {
		v := tup(hostA, hostB, row.proto, 7, 7)
		b := begun(t, 1).opens(0, v)
		for _, now := range []int64{most, most - 1, most - 29, most - 30} {
			b.moved(of(v, 0), now, api.FThere, most)
		}
		b.moved(of(v, 0), most-31, api.FThere, most-1)
		b.moved(of(v, 0), least, api.FThere, least+30)
		for _, now := range []int64{most, most - row.span + 1, most - row.span} {
			b.moved(of(turned(v), 0), now, api.FBoth, most)
		}
		b.moved(of(turned(v), 0), most-row.span-1, api.FBoth, most-1)
		b.moved(of(v, 0), least, api.FBoth, least+row.span)
	}
}

// Where no row applies nothing changes, Until neither, whatever now is.
func TestP21_5NoRow(t *testing.T) {
	u := tup(hostA, hostB, 6, 5, 80)
	for state, span := range spansOf() {
		b := brought(t, state, u, turned(u), 7)
		for _, now := range []int64{least, -1, 0, 7, 8, 1 << 40, most} {
			b.moved(of(u, 0), now, state, 7+span)
			b.moved(of(turned(u), 0xe8), now, state, 7+span)
			b.moved(of(turned(u), 2), now, state, 7+span)
		}
		b.check()
	}
}

// What Look tells to be no flow's packet moves none.
func TestP21_5NoFlow(t *testing.T) {
	u := tup(hostA, hostB, 17, 5, 53)
	b := begun(t, 2).opens(0, u, tup(hostA, hostB, 6, 5, 80))
	before := b.x.List()
	long, later, short, other := of(u, 0), of(u, 0), of(u, 0), of(u, 0)
	long.Body = make([]byte, 65516)
	later.Head.Off = 8
	short.Body = short.Body[:7]
	other.Head.Proto = 47
	for _, p := range []api.Packet{
		udp(hostA, hostB, 6, 53), udp(hostC, hostB, 5, 53), tcp(hostA, hostB, 5, 53, 4), ping(hostA, hostB, 5), {}, long, later, short, other,
		about(t, of(u, 0), 3, 3, hostB), about(t, of(turned(u), 0), 11, 0, hostC), control(hostA, hostB, 3, 1, 5),
	} {
		if k := b.look(p).Kind; k == api.TThere || k == api.TBack {
			t.Fatalf("the test's own packet %v is a flow's", p)
		}
		for _, now := range []int64{least, 5, most} {
			if f, err := b.move(p, now); f != (api.Flow{}) || err != api.ErrFlow {
				t.Errorf("P21.5: Move(%v) = %v, %d", p, f, err)
			}
		}
	}
	for i, f := range b.check().list() {
		if f != before[i] {
			t.Errorf("P21.5: %v became %v", before[i], f)
		}
	}
	for _, p := range []api.Packet{of(u, 0), {}} {
		if f, err := begun(t, 1).move(p, 5); f != (api.Flow{}) || err != api.ErrFlow {
			t.Errorf("P21.5: Move in an empty table = %v, %d", f, err)
		}
	}
}

// A packet moves its own flow alone.
func TestP21_5OthersStay(t *testing.T) {
	b := begun(t, 100).opens(0, manyTuples()...)
	for i, u := range manyTuples() {
		before := b.x.List()
		b.move(of(turned(u), 18), int64(1000+i))
		for k, f := range b.list() {
			if k != i && f != before[k] {
				t.Errorf("P21.5: flow %d became %v, was %v", k, f, before[k])
			}
			if k == i && f == before[k] {
				t.Errorf("P21.5: flow %d did not move", k)
			}
		}
	}
	b.check()
}

// A first piece moves its flow as a whole packet does.
func TestP21_5Pieces(t *testing.T) {
	u := tup(hostA, hostB, 6, 5, 80)
	b := begun(t, 1).opens(0, u)
	p := of(turned(u), 18)
	p.Head.MF, p.Body = true, append(p.Body, run(4)...)
	b.moved(p, 5, api.FSynAck, 65)
	p.Head.Off = 8
	if f, err := b.move(p, 6); f != (api.Flow{}) || err != api.ErrFlow {
		t.Errorf("P21.5: Move of a later piece = %v, %d", f, err)
	}
}

package flow

import (
	"bytes"
	"encoding/binary"
	"math/big"
	"slices"
	"strings"
	"testing"

	"weft/api"
	"weft/icmp"
	"weft/ip4"
)

// model is a table by the chapter's words: a plain list of the flows, as they were opened.
type model struct {
	limit int
	flows []api.Flow
}

// modelOf reads a tuple out of a packet's bytes.
func modelOf(p api.Packet) (api.Tuple, api.Errno) {
	raw, err := ip4.Build(p)
	if err != api.OK {
		return api.Tuple{}, err
	}
	if binary.BigEndian.Uint16(raw[6:])<<3 != 0 {
		return api.Tuple{}, api.ErrPiece
	}
	body := raw[int(raw[0]&15)*4:]
	if n, known := map[byte]int{1: 8, 6: 20, 17: 8}[raw[9]]; known && len(body) < n {
		return api.Tuple{}, api.ErrShort
	}
	from, to, told := modelPorts(raw[9], body)
	if !told {
		return api.Tuple{}, api.ErrTuple
	}
	src, dst := binary.BigEndian.Uint32(raw[12:]), binary.BigEndian.Uint32(raw[16:])
	return tup(api.Addr(src), api.Addr(dst), raw[9], from, to), api.OK
}

func modelPorts(proto byte, body []byte) (from, to uint16, told bool) {
	isEcho := bytes.HasPrefix(body, []byte{8, 0}) || bytes.HasPrefix(body, []byte{0, 0})
	switch {
	case proto == 6, proto == 17:
		return binary.BigEndian.Uint16(body), binary.BigEndian.Uint16(body[2:]), true
	case proto == 1 && isEcho:
		n := binary.BigEndian.Uint16(body[4:])
		return n, n, true
	}
	return 0, 0, false
}

func modelQuoted(p api.Packet) (api.Tuple, bool) {
	h, b, err := icmp.About(p)
	if err != api.OK || h.Off != 0 || len(b) < 8 {
		return api.Tuple{}, false
	}
	from, to, told := modelPorts(h.Proto, b)
	return tup(h.Src, h.Dst, h.Proto, from, to), told
}

// find is the place of the flow that has a tuple, and which one it is.
func (m *model) find(u api.Tuple) (place int, kind int) {
	for i, f := range m.flows {
		if f.There == u {
			return i, api.TThere
		}
		if f.Back == u {
			return i, api.TBack
		}
	}
	return 0, api.TNew
}

func (m *model) look(p api.Packet) api.Track {
	u, err := modelOf(p)
	if err == api.OK {
		i, kind := m.find(u)
		if kind == api.TNew {
			return api.Track{Kind: kind}
		}
		return api.Track{Kind: kind, Flow: m.flows[i]}
	}
	if q, told := modelQuoted(p); told {
		if i, kind := m.find(turned(q)); kind != api.TNew {
			return api.Track{Kind: api.TAbout, Flow: m.flows[i], Theirs: kind == api.TThere}
		}
	}
	return api.Track{Kind: api.TNone}
}

func (m *model) open(there, back api.Tuple, p api.Packet, now int64) api.Errno {
	u, err := modelOf(p)
	if err != api.OK || u != there || back.Proto != there.Proto || back == there {
		return api.ErrTuple
	}
	if u.Proto == 6 && p.Body[13]&0b010111 != 0b000010 || u.Proto == 1 && p.Body[0] != 8 {
		return api.ErrTuple
	}
	for _, u := range []api.Tuple{there, back} {
		if _, kind := m.find(u); kind != api.TNew {
			return api.ErrDup
		}
	}
	if len(m.flows) == m.limit {
		return api.ErrFull
	}
	f := api.Flow{There: there, Back: back, State: api.FThere}
	if u.Proto == 6 {
		f.State = api.FSyn
	}
	f.Until = modelUntil(f, now)
	m.flows = append(m.flows, f)
	return api.OK
}

// modelUntil is the exact sum, brought between the ends of int64.
func modelUntil(f api.Flow, now int64) int64 {
	span := map[int]int64{api.FThere: 30, api.FBoth: 180, api.FSyn: 120, api.FSynAck: 60, api.FOpen: 432000, api.FFin: 120, api.FFinBack: 120, api.FLast: 60, api.FClosed: 10}[f.State]
	if f.State == api.FBoth && f.There.Proto == 1 {
		span = 30
	}
	sum := new(big.Int).Add(big.NewInt(now), big.NewInt(span))
	if !sum.IsInt64() {
		return most
	}
	return sum.Int64()
}

// The chapter's table, row by row.
const segmentRows = `
	FSyn FSynAck FOpen FFin FLast FClosed FFinBack | R there, R back | FClosed
	FSyn | S there | FSyn
	FSyn FSynAck | SA back | FSynAck
	FSynAck | A there | FOpen
	FOpen | A there, A back | FOpen
	FSynAck FOpen FFin | F there | FFin
	FSynAck FOpen FFinBack | F back | FFinBack
	FFin | F back | FLast
	FFinBack | F there | FLast
	FFin | A there, A back | FFin
	FFinBack | A there, A back | FFinBack
	FLast | A there, A back, F there, F back | FLast
	FLast FClosed | S there | FSyn
`

func stateNamed(name string) int {
	return map[string]int{"FSyn": api.FSyn, "FSynAck": api.FSynAck, "FOpen": api.FOpen, "FFin": api.FFin, "FLast": api.FLast, "FClosed": api.FClosed, "FFinBack": api.FFinBack}[name]
}

// segmentMove is a move of a flow in a state, by a segment of a kind one way.
type segmentMove struct {
	state   int
	segment string // "SA back"
}

// segmentMoves is the state that each move of the chapter's table leads to, by the first row that has it.
func segmentMoves() map[segmentMove]int {
	moves := map[segmentMove]int{}
	for row := range strings.Lines(strings.TrimSpace(segmentRows)) {
		parts := strings.Split(strings.TrimSpace(row), " | ")
		for _, name := range strings.Fields(parts[0]) {
			for _, s := range strings.Split(parts[1], ", ") {
				k := segmentMove{stateNamed(name), s}
				if moves[k] == 0 {
					moves[k] = stateNamed(parts[2])
				}
			}
		}
	}
	return moves
}

var knownMoves = segmentMoves()

// kindNamed is a segment's kind: the first of these whose flags are set and whose others are not.
func kindNamed(flags byte) string {
	for _, k := range []struct {
		name     string
		set, not byte
	}{{"R", 4, 0}, {"S", 2, 16}, {"SA", 2 | 16, 0}, {"F", 1, 0}, {"A", 16, 0}} {
		if flags&k.set == k.set && flags&k.not == 0 {
			return k.name
		}
	}
	return "N"
}

func wayNamed(kind int) string {
	return map[int]string{api.TThere: "there", api.TBack: "back"}[kind]
}

func (m *model) move(p api.Packet, now int64) (api.Flow, api.Errno) {
	u, err := modelOf(p)
	i, kind := m.find(u)
	if err != api.OK || kind == api.TNew {
		return api.Flow{}, api.ErrFlow
	}
	f := &m.flows[i]
	switch {
	case u.Proto != 6 && kind == api.TBack:
		f.State = api.FBoth
	case u.Proto == 6:
		then := knownMoves[segmentMove{f.State, kindNamed(p.Body[13]) + " " + wayNamed(kind)}]
		if then == 0 {
			return *f, api.OK
		}
		f.State = then
	}
	f.Until = modelUntil(*f, now)
	return *f, api.OK
}

func (m *model) due(now int64) []api.Flow {
	var over, left []api.Flow
	for _, f := range m.list() { // in the order of There, which a stable sort keeps
		if f.Until <= now {
			over = append(over, f)
		}
	}
	slices.SortStableFunc(over, func(f, g api.Flow) int { return big.NewInt(f.Until).Cmp(big.NewInt(g.Until)) })
	for _, f := range m.flows {
		if f.Until > now {
			left = append(left, f)
		}
	}
	m.flows = left
	return over
}

// list goes by the tuples' numbers written one behind the other in bytes.
func (m *model) list() []api.Flow {
	list := slices.Clone(m.flows)
	slices.SortFunc(list, func(f, g api.Flow) int { return strings.Compare(written(f.There), written(g.There)) })
	return list
}

func written(u api.Tuple) string {
	b := binary.BigEndian.AppendUint32(nil, uint32(u.Src))
	b = binary.BigEndian.AppendUint32(b, uint32(u.Dst))
	return string(append(append(b, u.Proto), withPorts(u.SrcPort, u.DstPort)...))
}

// both is a table beside its model: each call asks both, and holds their answers against each other.
type both struct {
	t *testing.T
	x *Table
	m *model
}

func begun(t *testing.T, limit int) both {
	t.Helper()
	x, err := New(limit)
	if x == nil || err != api.OK {
		t.Fatalf("P21.2: New(%d) = %v, %d", limit, x, err)
	}
	return both{t, x, &model{limit: limit}}
}

func (b both) look(p api.Packet) api.Track {
	b.t.Helper()
	got, want := b.x.Look(p), b.m.look(p)
	if got != want {
		b.t.Fatalf("P21.3: Look(%v) = %v, want %v", p, got, want)
	}
	return got
}

func (b both) open(there, back api.Tuple, p api.Packet, now int64) api.Errno {
	b.t.Helper()
	got, want := b.x.Open(there, back, p, now), b.m.open(there, back, p, now)
	if got != want {
		b.t.Fatalf("P21.4: Open(%v, %v, %v, %d) = %d, want %d", there, back, p, now, got, want)
	}
	return got
}

func (b both) move(p api.Packet, now int64) (api.Flow, api.Errno) {
	b.t.Helper()
	got, err := b.x.Move(p, now)
	if want, wantErr := b.m.move(p, now); got != want || err != wantErr {
		b.t.Fatalf("P21.5: Move(%v, %d) = %v, %d, want %v, %d", p, now, got, err, want, wantErr)
	}
	return got, err
}

func (b both) due(now int64) []api.Flow {
	b.t.Helper()
	got, want := b.x.Due(now), b.m.due(now)
	if !slices.Equal(got, want) {
		b.t.Fatalf("P21.7: Due(%d) = %v, want %v", now, got, want)
	}
	return got
}

func (b both) list() []api.Flow {
	b.t.Helper()
	got, want := b.x.List(), b.m.list()
	if !slices.Equal(got, want) {
		b.t.Fatalf("P21.7: List = %v, want %v", got, want)
	}
	return got
}

// check asks for all that a table holds, and looks inside: nothing else is kept. Nothing of it changes anything.
func (b both) check() both {
	b.t.Helper()
	list := b.list()
	for _, f := range list {
		for _, u := range []api.Tuple{f.There, f.Back} {
			if u.Proto != 1 || u.SrcPort == u.DstPort { // else no packet has that tuple
				b.look(of(u, 0))
			}
		}
	}
	n := len(list)
	if len(b.x.flows) != n || len(b.x.numbers) != 2*n || b.x.timers.Len() != n {
		b.t.Fatalf("P21.8: of %d flows %d are kept, %d tuples, %d timers", n, len(b.x.flows), len(b.x.numbers), b.x.timers.Len())
	}
	return b
}

// opens opens flows there and back by the tuples There, as ordinary ones.
func (b both) opens(now int64, list ...api.Tuple) both {
	b.t.Helper()
	for _, u := range list {
		if err := b.open(u, turned(u), first(u), now); err != api.OK {
			b.t.Fatalf("P21.4: Open(%v) = %d", u, err)
		}
	}
	return b
}

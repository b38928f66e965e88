package frag

import (
	"bytes"
	"cmp"
	"fmt"
	"math"
	"math/rand"
	"slices"
	"strings"
	"testing"

	"weft/api"
	"weft/ip4"
)

const (
	most  = math.MaxInt64
	least = math.MinInt64
)

// dice rolls the same way in every run.
func dice() *rand.Rand {
	return rand.New(rand.NewSource(5))
}

// run is n bytes: c, c + 1 and so on.
func run(c byte, n int) []byte {
	b := make([]byte, n)
	for i := range b {
		b[i] = c + byte(i)
	}
	return b
}

func fill(n int, v byte) []byte {
	return bytes.Repeat([]byte{v}, n)
}

func joined(parts ...[]byte) []byte {
	return slices.Concat(parts...)
}

// packet is the chapter's header H, with that offset, flag and body.
func packet(off int, more bool, body []byte) api.Packet {
	return api.Packet{Head: api.Head{ID: 7, Off: off, MF: more, TTL: 9, Proto: 17, Src: 10<<24 + 1, Dst: 10<<24 + 256 + 1}, Body: body}
}

func withID(p api.Packet, id uint16) api.Packet {
	p.Head.ID = id
	return p
}

func withTTL(p api.Packet, ttl byte) api.Packet {
	p.Head.TTL = ttl
	return p
}

func withOpts(p api.Packet, opts ...byte) api.Packet {
	p.Head.Opts = opts
	return p
}

func withDF(p api.Packet) api.Packet {
	p.Head.DF = true
	return p
}

// Options of 40 bytes: such as no later piece carries, such as each carries whole, and some of both.
func plainOpts() []byte  { return joined([]byte{7, 39}, run(9, 37), []byte{1}) }
func copiedOpts() []byte { return joined([]byte{0x83, 40}, run(9, 38)) }
func mixedOpts() []byte {
	return joined([]byte{1, 7, 19}, run(9, 17), []byte{0x88, 4, 5, 6, 0x82, 3, 9, 0x44, 4, 1, 2}, fill(9, 0))
}

func samePacket(a, b api.Packet) bool {
	x, y := a.Head, b.Head
	return x.TOS == y.TOS && x.ID == y.ID && x.DF == y.DF && x.MF == y.MF && x.Off == y.Off && x.TTL == y.TTL && x.Proto == y.Proto &&
		x.Src == y.Src && x.Dst == y.Dst && bytes.Equal(x.Opts, y.Opts) && bytes.Equal(a.Body, b.Body)
}

// brief tells a packet without the length of its body.
func brief(packets ...api.Packet) string {
	var text []string
	for _, p := range packets {
		text = append(text, fmt.Sprintf("{%+v, %d bytes %x..}", p.Head, len(p.Body), p.Body[:min(16, len(p.Body))]))
	}
	return strings.Join(text[:min(12, len(text))], " ")
}

func clonePacket(p api.Packet) api.Packet {
	p.Head.Opts = slices.Clone(p.Head.Opts)
	p.Body = slices.Clone(p.Body)
	return p
}

// modelSplit is P5.1, sentence by sentence.
func modelSplit(p api.Packet, mtu int) ([]api.Packet, api.Errno) {
	if mtu < 68 {
		return nil, api.ErrMTU
	}
	if _, err := ip4.Build(p); err != api.OK {
		return nil, err
	}
	if 20+len(p.Head.Opts)+len(p.Body) <= mtu {
		return []api.Packet{p}, api.OK
	}
	if p.Head.DF {
		return nil, api.ErrDF
	}
	carried, _ := ip4.Copied(p.Head.Opts)
	var list []api.Packet
	for at := 0; ; {
		q := p
		q.Head.Off = p.Head.Off + at
		if at > 0 {
			q.Head.Opts = carried
		}
		own := 20 + len(q.Head.Opts)
		if own+len(p.Body)-at <= mtu {
			q.Body = p.Body[at:]
			return append(list, q), api.OK
		}
		n := 0
		for own+n+8 <= mtu {
			n += 8
		}
		q.Head.MF = true
		q.Body = p.Body[at : at+n]
		list = append(list, q)
		at += n
	}
}

// checkSplit holds Split against the model, and tells the pieces.
func checkSplit(t *testing.T, p api.Packet, mtu int) []api.Packet {
	t.Helper()
	want, wantErr := modelSplit(p, mtu)
	got, err := Split(p, mtu)
	if err != wantErr || !slices.EqualFunc(got, want, samePacket) {
		t.Fatalf("P5.1: Split(%s, %d) = %s, %d, want %s, %d", brief(p), mtu, brief(got...), err, brief(want...), wantErr)
	}
	return got
}

// modelHeld is a datagram as all the pieces that were taken of it, in their order.
type modelHeld struct {
	key    api.Hold // with neither Bytes nor Until
	pieces []api.Packet
	until  int64
	bytes  int
}

// model is the chapter's words over plain lists; datagrams stand in the order in which they were begun.
type model struct {
	room int
	life int64
	now  int64
	list []modelHeld
}

func modelKey(p api.Packet) api.Hold {
	return api.Hold{Src: p.Head.Src, Dst: p.Head.Dst, Proto: p.Head.Proto, ID: p.Head.ID}
}

// modelLength is the length that the pieces tell, -1 if none does.
func modelLength(pieces []api.Packet) int {
	for _, p := range pieces {
		if !p.Head.MF {
			return p.Head.Off + len(p.Body)
		}
	}
	return -1
}

func modelClash(pieces []api.Packet, p api.Packet) bool {
	length, end := modelLength(pieces), p.Head.Off+len(p.Body)
	if length >= 0 && end > length {
		return true
	}
	if length >= 0 && !p.Head.MF && end != length {
		return true
	}
	return length < 0 && !p.Head.MF && slices.ContainsFunc(pieces, func(q api.Packet) bool { return end < q.Head.Off+len(q.Body) })
}

// modelCover is the bytes that the pieces cover, each by the first piece that has it, and how many these are.
func modelCover(pieces []api.Packet) (body []byte, covered []bool, count int) {
	for _, p := range pieces {
		if more := p.Head.Off + len(p.Body) - len(body); more > 0 {
			body, covered = append(body, make([]byte, more)...), append(covered, make([]bool, more)...)
		}
		for i, v := range p.Body {
			if at := p.Head.Off + i; !covered[at] {
				body[at], covered[at] = v, true
				count++
			}
		}
	}
	return body, covered, count
}

// modelWhole is the packet that the pieces make, if they make one.
func modelWhole(pieces []api.Packet) (api.Packet, bool) {
	length := modelLength(pieces)
	body, covered, _ := modelCover(pieces)
	if length < 0 || len(covered) < length || slices.Contains(covered[:length], false) {
		return api.Packet{}, false
	}
	first := slices.IndexFunc(pieces, func(p api.Packet) bool { return p.Head.Off == 0 })
	whole := api.Packet{Head: pieces[first].Head, Body: body[:length]}
	whole.Head.MF = false
	return whole, true
}

func (m *model) find(p api.Packet) int {
	return slices.IndexFunc(m.list, func(h modelHeld) bool { return h.key == modelKey(p) })
}

func (m *model) add(p api.Packet) (api.Packet, api.Errno) {
	if _, err := ip4.Build(p); err != api.OK {
		return api.Packet{}, err
	}
	i := m.find(p)
	if p.Head.Off == 0 && !p.Head.MF {
		if i >= 0 {
			m.list = slices.Delete(m.list, i, i+1)
		}
		return p, api.OK
	}
	var pieces []api.Packet
	if i >= 0 {
		pieces = slices.Clone(m.list[i].pieces)
	}
	if modelClash(pieces, p) {
		return api.Packet{}, api.ErrClash
	}
	pieces = append(pieces, clonePacket(p))
	whole, ready := modelWhole(pieces)
	if ready {
		if _, err := ip4.Build(whole); err != api.OK {
			return api.Packet{}, err
		}
		m.list = slices.Delete(m.list, i, i+1)
		return whole, api.OK
	}
	m.hold(i, pieces)
	return api.Packet{}, api.ErrMore
}

// hold keeps pieces, of which the last is new, as the datagram i, or as a new one.
func (m *model) hold(i int, pieces []api.Packet) {
	p := pieces[len(pieces)-1]
	if i < 0 {
		if len(m.list) == m.room {
			m.evict()
		}
		i = len(m.list)
		m.list = append(m.list, modelHeld{key: modelKey(p), until: least})
	}
	_, _, count := modelCover(pieces)
	m.list[i].pieces, m.list[i].bytes = pieces, count
	span := int64(p.Head.TTL)
	if span < 1 {
		span = 1
	}
	if span > m.life {
		span = m.life
	}
	m.list[i].until = max(m.list[i].until, modelAfter(m.now, span))
}

func modelAfter(now, span int64) int64 {
	if uint64(now)+uint64(span) > most {
		return most
	}
	return now + span
}

// evict takes out the first of those with the least until.
func (m *model) evict() {
	first := 0
	for i, h := range m.list {
		if h.until < m.list[first].until {
			first = i
		}
	}
	m.list = slices.Delete(m.list, first, first+1)
}

func (m *model) tick(n int64) int {
	if n < 0 {
		return 0
	}
	m.now = modelAfter(m.now, n)
	before := len(m.list)
	m.list = slices.DeleteFunc(m.list, func(h modelHeld) bool { return h.until <= m.now })
	return before - len(m.list)
}

func (m *model) held() []api.Hold {
	var list []api.Hold
	for _, h := range m.list {
		hold := h.key
		hold.Bytes, hold.Until = h.bytes, h.until
		list = append(list, hold)
	}
	slices.SortFunc(list, func(a, b api.Hold) int {
		return cmp.Or(cmp.Compare(a.Src, b.Src), cmp.Compare(a.Dst, b.Dst), cmp.Compare(a.Proto, b.Proto), cmp.Compare(a.ID, b.ID))
	})
	return list
}

func made(t *testing.T, room int, life int64) *Asm {
	t.Helper()
	a, e := New(room, life)
	if a == nil || e != api.OK {
		t.Fatalf("P5.2: New(%d, %d) = %v, %d", room, life, a, e)
	}
	return a
}

// pair asks an assembler and the model the same, and holds their answers against each other.
type pair struct {
	t     *testing.T
	real  *Asm
	model model
}

func newPair(t *testing.T, room int, life int64) *pair {
	t.Helper()
	return &pair{t: t, real: made(t, room, life), model: model{room: room, life: life}}
}

// add tells what both answered.
func (p *pair) add(q api.Packet) (api.Packet, api.Errno) {
	p.t.Helper()
	want, wantErr := p.model.add(q)
	got, err := p.real.Add(q)
	if err != wantErr || !samePacket(got, want) {
		p.t.Fatalf("P5.3: Add(%s) = %s, %d, want %s, %d", brief(q), brief(got), err, brief(want), wantErr)
	}
	p.checkState()
	return got, err
}

// err adds a packet that is to be answered by that error.
func (p *pair) err(q api.Packet, want api.Errno) {
	p.t.Helper()
	if _, err := p.add(q); err != want {
		p.t.Fatalf("P5.3: Add(%s): %d, want %d", brief(q), err, want)
	}
}

// more adds a piece that makes nothing whole.
func (p *pair) more(q api.Packet) {
	p.t.Helper()
	p.err(q, api.ErrMore)
}

// whole adds a packet that is to be answered by that one.
func (p *pair) whole(q, want api.Packet) {
	p.t.Helper()
	if got, err := p.add(q); err != api.OK || !samePacket(got, want) {
		p.t.Fatalf("P5.3: Add(%s) = %s, %d, want %s", brief(q), brief(got), err, brief(want))
	}
}

func (p *pair) tick(n int64, want int) {
	p.t.Helper()
	if got, model := p.real.Tick(n), p.model.tick(n); got != want || model != want {
		p.t.Fatalf("P5.4: Tick(%d) = %d, want %d (the model: %d)", n, got, want, model)
	}
	p.checkState()
}

// holds says what is to be held.
func (p *pair) holds(want ...api.Hold) {
	p.t.Helper()
	if got := p.real.Held(); !slices.Equal(got, want) {
		p.t.Fatalf("P5.5: Held() = %v, want %v", got, want)
	}
}

func (p *pair) checkState() {
	p.t.Helper()
	p.holds(p.model.held()...)
	checkInside(p.t, p.real)
}

// checkInside: each datagram has a timer under a number of its own, and nothing besides is kept.
func checkInside(t *testing.T, a *Asm) {
	t.Helper()
	if a.timers.Len() != len(a.held) {
		t.Fatalf("%d timers of %d datagrams are kept", a.timers.Len(), len(a.held))
	}
	numbers := map[int]key{}
	for k, d := range a.held {
		if other, twice := numbers[d.number]; twice {
			t.Fatalf("%v and %v have the number %d", k, other, d.number)
		}
		numbers[d.number] = k
		if _, e := a.timers.When(d.number); e != api.OK {
			t.Fatalf("%v has no timer: %d", k, e)
		}
		if !d.covers(0) && !samePacket(api.Packet{Head: d.head}, api.Packet{}) {
			t.Fatalf("%v has a header ahead of its piece: %v", k, d.head)
		}
		count := 0
		for at := range d.body {
			if d.covers(at) {
				count++
			} else if d.body[at] != 0 {
				t.Fatalf("%v has a byte at %d that is not covered", k, at)
			}
		}
		if count != d.bytes {
			t.Fatalf("%v covers %d bytes, and says %d", k, count, d.bytes)
		}
	}
}

// hold is what Held tells of the chapter's header.
func hold(id uint16, n int, until int64) api.Hold {
	return api.Hold{Src: 10<<24 + 1, Dst: 10<<24 + 256 + 1, Proto: 17, ID: id, Bytes: n, Until: until}
}

// someOptions is an option area of at most 40 bytes.
func someOptions(roll *rand.Rand) []byte {
	room := 4 * roll.Intn(11)
	var area []byte
	for len(area) < room {
		left := room - len(area)
		switch n := 2 + roll.Intn(12); {
		case roll.Intn(8) == 0:
			return append(area, make([]byte, left)...)
		case n > left || roll.Intn(4) == 0:
			area = append(area, 1)
		default:
			kind := []byte{2, 7, 0x7f, 0x80, 0x82, 0xff}[roll.Intn(6)]
			area = append(area, joined([]byte{kind, byte(n)}, run(byte(roll.Int()), n-2))...)
		}
	}
	return area
}

// someWhole is a whole packet that may be cut.
func someWhole(roll *rand.Rand, length int) api.Packet {
	body := make([]byte, length)
	roll.Read(body)
	return api.Packet{Head: api.Head{
		TOS: byte(roll.Int()), ID: uint16(roll.Int()), TTL: byte(roll.Int()), Proto: byte(roll.Int()),
		Src: api.Addr(roll.Uint32()), Dst: api.Addr(roll.Uint32()), Opts: someOptions(roll),
	}, Body: body}
}

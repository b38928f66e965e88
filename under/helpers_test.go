package under

import (
	"fmt"
	"math"
	"math/rand"
	"slices"
	"testing"

	"weft/api"
)

// dice rolls the same way in every run.
func dice() *rand.Rand {
	return rand.New(rand.NewSource(18))
}

func quad(a, b, c, d int) api.Addr {
	return api.Addr(a<<24 | b<<16 | c<<8 | d)
}

func sent(to api.Addr, b ...byte) api.Sent {
	return api.Sent{To: to, Bytes: b}
}

// run is n bytes of which those near each other differ.
func run(n int) []byte {
	b := make([]byte, n)
	for i := range b {
		b[i] = byte(i*7 + i>>8 + 1)
	}
	return b
}

// row is n packets, each with another address and other bytes, of one byte or more.
func row(n int) []api.Sent {
	list := make([]api.Sent, n)
	for i := range list {
		list[i] = sent(api.Addr(100+i), run(1+i%5)...)
		list[i].Bytes[0] = byte(i)
	}
	return list
}

// nowhere is what is no packet's place, whatever is in flight.
var nowhere = []int{-1, -2, api.MaxFlight, math.MaxInt32, math.MinInt32, 1 << 32, -1 << 32, math.MinInt, math.MinInt + 1, math.MaxInt - 1, math.MaxInt}

// packet is one of the model: its bytes are a text, which nobody can write into.
type packet struct {
	to    api.Addr
	bytes string
}

func packetOf(s api.Sent) packet {
	return packet{s.To, string(s.Bytes)}
}

func packetsOf(list []api.Sent) []packet {
	var out []packet
	for _, s := range list {
		out = append(out, packetOf(s))
	}
	return out
}

// model is a net by the chapter's words: each change makes its list anew.
type model struct {
	limit  int
	flight []packet
}

// ahead counts off the packets that are ahead of number i: false, if there is none of that number.
func (m *model) ahead(i int) (front []packet, p packet, behind []packet, there bool) {
	for k, p := range m.flight {
		if k == i {
			return m.flight[:k], p, m.flight[k+1:], true
		}
	}
	return nil, packet{}, nil, false
}

func (m *model) put(list ...packet) (int, api.Errno) {
	for joined, p := range list {
		switch {
		case len(p.bytes) > 65535:
			return joined, api.ErrLong
		case len(m.flight) == m.limit:
			return joined, api.ErrFull
		}
		m.flight = slices.Concat(m.flight, []packet{p})
	}
	return len(list), api.OK
}

func (m *model) take(i int) (packet, api.Errno) {
	front, p, behind, there := m.ahead(i)
	if !there {
		return packet{}, api.ErrNone
	}
	m.flight = slices.Concat(front, behind)
	return p, api.OK
}

func (m *model) copy(i int) api.Errno {
	_, p, _, there := m.ahead(i)
	if !there {
		return api.ErrNone
	}
	_, err := m.put(p)
	return err
}

func (m *model) spoil(i, at int, mask byte) api.Errno {
	front, p, behind, there := m.ahead(i)
	if !there {
		return api.ErrNone
	}
	if mask == 0 {
		return api.ErrArg
	}
	for k := range len(p.bytes) {
		if k == at {
			turned := p.bytes[k]&^mask | ^p.bytes[k]&mask
			p.bytes = p.bytes[:k] + string([]byte{turned}) + p.bytes[k+1:]
			m.flight = slices.Concat(front, []packet{p}, behind)
			return api.OK
		}
	}
	return api.ErrArg
}

// both is a net beside its model: each call asks both, and holds their answers against each other; behind it they have the same in flight.
type both struct {
	t *testing.T
	n *Net
	m *model
}

func begun(t *testing.T, limit int) both {
	t.Helper()
	n, err := New(limit)
	if n == nil || err != api.OK {
		t.Fatalf("P18.1: New(%d) = %v, %d", limit, n, err)
	}
	return both{t, n, &model{limit: limit}}.check()
}

// filled is a net with so many packets in flight, those of row.
func filled(t *testing.T, limit, n int) both {
	t.Helper()
	b := begun(t, limit)
	b.joins(row(n)...)
	return b
}

func (b both) check() both {
	b.t.Helper()
	b.list()
	return b
}

func (b both) list() []api.Sent {
	b.t.Helper()
	list := b.n.List()
	if got := packetsOf(list); !slices.Equal(got, b.m.flight) {
		b.t.Fatalf("P18.7: List = %s, want %s", brief(got), brief(b.m.flight))
	}
	return list
}

// short leaves out all but a packet's first bytes.
func short(p packet) string {
	return fmt.Sprintf("%d bytes to %x: %x", len(p.bytes), p.to, p.bytes[:min(8, len(p.bytes))])
}

// brief leaves out all but the first packets.
func brief(list []packet) string {
	text := ""
	for _, p := range list[:min(12, len(list))] {
		text += "[" + short(p) + "]"
	}
	return fmt.Sprintf("%d packets %s", len(list), text)
}

func (b both) put(list ...api.Sent) (int, api.Errno) {
	b.t.Helper()
	want := packetsOf(list)
	joined, err := b.n.Put(list...)
	if k, e := b.m.put(want...); joined != k || err != e {
		b.t.Fatalf("P18.2: Put(%s) = %d, %d, want %d, %d", brief(want), joined, err, k, e)
	}
	b.check()
	return joined, err
}

func (b both) take(i int) (api.Sent, api.Errno) {
	b.t.Helper()
	s, err := b.n.Take(i)
	if p, e := b.m.take(i); packetOf(s) != p || err != e {
		b.t.Fatalf("P18.3: Take(%d) = %s, %d, want %s, %d", i, short(packetOf(s)), err, short(p), e)
	}
	b.check()
	return s, err
}

func (b both) copy(i int) api.Errno {
	b.t.Helper()
	err := b.n.Copy(i)
	if e := b.m.copy(i); err != e {
		b.t.Fatalf("P18.4: Copy(%d) = %d, want %d", i, err, e)
	}
	b.check()
	return err
}

func (b both) lose(i int) api.Errno {
	b.t.Helper()
	err := b.n.Lose(i)
	if _, e := b.m.take(i); err != e {
		b.t.Fatalf("P18.5: Lose(%d) = %d, want %d", i, err, e)
	}
	b.check()
	return err
}

func (b both) spoil(i, at int, mask byte) api.Errno {
	b.t.Helper()
	err := b.n.Spoil(i, at, mask)
	if e := b.m.spoil(i, at, mask); err != e {
		b.t.Fatalf("P18.6: Spoil(%d, %d, %02x) = %d, want %d", i, at, mask, err, e)
	}
	b.check()
	return err
}

// joins puts packets into flight, of which each finds room.
func (b both) joins(list ...api.Sent) both {
	b.t.Helper()
	if k, err := b.put(list...); k != len(list) || err != api.OK {
		b.t.Fatalf("P18.2: %d of %d joined, %d", k, len(list), err)
	}
	return b
}

// has tells what is in flight, without the model.
func (b both) has(list ...api.Sent) both {
	b.t.Helper()
	if got, want := packetsOf(b.n.List()), packetsOf(list); !slices.Equal(got, want) {
		b.t.Fatalf("P18.7: in flight are %s, want %s", brief(got), brief(want))
	}
	return b
}

// is holds a call's error against the one that is asked for.
func (b both) is(err, want api.Errno) both {
	b.t.Helper()
	if err != want {
		b.t.Errorf("P18: error %d, want %d", err, want)
	}
	return b
}

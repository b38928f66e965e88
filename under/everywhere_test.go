package under

import (
	"math"
	"math/rand"
	"runtime"
	"slices"
	"sync"
	"testing"

	"weft/api"
)

// anyPacket is mostly a short one, sometimes one about the bound.
func anyPacket(r *rand.Rand) api.Sent {
	n := r.Intn(6)
	switch r.Intn(100) {
	case 0:
		n = 65533 + r.Intn(6)
	case 1:
		n = r.Intn(2000)
	}
	b := make([]byte, n, n+r.Intn(3))
	r.Read(b)
	return api.Sent{To: api.Addr(r.Uint32()), Bytes: b}
}

func anyPackets(r *rand.Rand) []api.Sent {
	list := make([]api.Sent, r.Intn(4))
	for i := range list {
		list[i] = anyPacket(r)
	}
	return list
}

// anyPlace is mostly a packet's, or about the ends.
func anyPlace(r *rand.Rand, n int) int {
	if r.Intn(12) == 0 {
		return nowhere[r.Intn(len(nowhere))]
	}
	return r.Intn(n+3) - 1
}

func anyByte(r *rand.Rand, m *model, i int) int {
	if r.Intn(12) == 0 {
		return nowhereInside[r.Intn(len(nowhereInside))]
	}
	_, p, _, _ := m.ahead(i)
	return r.Intn(len(p.bytes)+2) - 1
}

// step asks a net and its model anything.
func step(r *rand.Rand, b both) {
	b.t.Helper()
	n := len(b.m.flight)
	switch r.Intn(10) {
	case 0, 1, 2:
		b.put(anyPackets(r)...)
	case 3, 4:
		b.take(anyPlace(r, n))
	case 5:
		b.lose(anyPlace(r, n))
	case 6, 7:
		b.copy(anyPlace(r, n))
	case 8, 9:
		i := anyPlace(r, n)
		b.spoil(i, anyByte(r, b.m, i), byte(r.Intn(256))&byte(r.Intn(256)))
	}
}

// Steps by dice, against the model; behind each one List tells all.
func TestP0_1AnySteps(t *testing.T) {
	r := dice()
	for range 150 {
		b := begun(t, 1+r.Intn(12))
		for range 150 {
			step(r, b)
		}
	}
}

// No call panics, whatever it is given; beside an error stands nothing else.
func TestP0_1Anything(t *testing.T) {
	numbers := append([]int{0, 1, 2, 3, 4095, 4097, 65534}, append(nowhere, nowhereInside...)...)
	for _, limit := range numbers {
		n, err := New(limit)
		if (n == nil) != (err != api.OK) || n == nil && err != api.ErrArg {
			t.Fatalf("P0.2: New(%d) = %v, %d", limit, n, err)
		}
		if n == nil {
			continue
		}
		b := both{t, n, &model{limit: limit}}
		for range 3 {
			for _, i := range numbers {
				if s, err := b.take(i); err != api.OK && (s.To != 0 || s.Bytes != nil) {
					t.Errorf("P0.2: Take(%d) = %v, %d", i, s, err)
				}
				b.lose(i)
				b.put(api.Sent{}, sent(math.MaxUint32, 1, 2))
				b.copy(i)
				for _, at := range numbers {
					b.spoil(i, at, 0)
					b.spoil(i, at, 0x81)
				}
			}
		}
	}
}

// A refused call changes nothing, but that what is ahead of a refused packet has joined.
func TestP0_2RefusedChangesNothing(t *testing.T) {
	b := filled(t, 3, 3)
	want := row(3)
	refused := []func() api.Errno{
		func() api.Errno { _, err := b.n.Put(sent(1, 1)); return err },
		func() api.Errno { _, err := b.n.Put(sent(1, make([]byte, 65536)...)); return err },
		func() api.Errno { _, err := b.n.Take(3); return err },
		func() api.Errno { _, err := b.n.Take(-1); return err },
		func() api.Errno { return b.n.Copy(0) },
		func() api.Errno { return b.n.Copy(3) },
		func() api.Errno { return b.n.Lose(3) },
		func() api.Errno { return b.n.Spoil(3, 0, 1) },
		func() api.Errno { return b.n.Spoil(0, 1, 1) },
		func() api.Errno { return b.n.Spoil(0, 0, 0) },
		func() api.Errno { return b.n.Spoil(0, -1, 1) },
	}
	for i, call := range refused {
		if err := call(); err == api.OK {
			t.Errorf("P0.2: call %d is not refused", i)
		}
		b.has(want...)
	}
	b.is(b.lose(0), api.OK).joins(sent(1, 1)).has(want[1], want[2], sent(1, 1))
}

// List is a question: however often it is asked, nothing changes.
func TestP18_7ListChangesNothing(t *testing.T) {
	for _, n := range []int{0, 1, 5} {
		b := filled(t, 5, n)
		for range 3 {
			b.has(row(n)...)
		}
		if k, err := b.put(row(6)...); k != 5-n || err != api.ErrFull {
			t.Errorf("P18.7: %d found room, %d", k, err)
		}
	}
}

// What is in flight, behind every kind of step, done and refused.
func TestP18_7BehindEveryStep(t *testing.T) {
	one, two, three := sent(1, 1), sent(2, 2, 2), sent(3)
	b := begun(t, 3)
	b.has()
	b.puts(0, api.OK).has()
	b.puts(2, api.OK, one, two).has(one, two)
	b.is(b.copy(1), api.OK).has(one, two, two)
	b.is(b.copy(1), api.ErrFull).has(one, two, two)
	b.is(b.copy(3), api.ErrNone).has(one, two, two)
	b.puts(0, api.ErrFull, three).has(one, two, two)
	b.is(b.spoil(1, 1, 3), api.OK).has(one, sent(2, 2, 1), two)
	b.is(b.spoil(1, 2, 3), api.ErrArg).has(one, sent(2, 2, 1), two)
	b.is(b.spoil(4, 0, 3), api.ErrNone).has(one, sent(2, 2, 1), two)
	b.takes(1, sent(2, 2, 1)).has(one, two)
	b.takesNone(2).has(one, two)
	b.is(b.lose(0), api.OK).has(two)
	b.is(b.lose(1), api.ErrNone).has(two)
	b.puts(1, api.OK, three).has(two, three)
	b.takes(0, two).has(three)
	b.takes(0, three).has()
	b.takesNone(0).has()
	b.puts(1, api.OK, one).has(one)
}

// As a list of packets, and as a packet's bytes, nil and empty are the same.
func TestP0_4NilAndEmpty(t *testing.T) {
	b := begun(t, 3)
	b.puts(0, api.OK, []api.Sent(nil)...).puts(0, api.OK, []api.Sent{}...)
	b.joins(api.Sent{To: 1}, api.Sent{To: 1, Bytes: []byte{}}).has(sent(1), sent(1))
	for range 2 {
		b.is(b.spoil(0, 0, 1), api.ErrArg).takes(0, sent(1))
	}
}

// Nets in turns: none knows of the others, be they of one limit or of two, and with the same packets.
func TestP18_8NetsInTurns(t *testing.T) {
	r := dice()
	list := []both{begun(t, 4), begun(t, 4), begun(t, 9)}
	shared := row(4)
	for _, b := range list {
		b.joins(shared...)
	}
	for range 1500 {
		step(r, list[r.Intn(len(list))])
		for _, b := range list {
			b.check()
		}
	}
}

// What one net told is handed to another: they have nothing in common.
func TestP18_8FromNetToNet(t *testing.T) {
	one, two := filled(t, 8, 4), begun(t, 8)
	list := one.n.List()
	two.joins(list...)
	s, _ := one.take(1)
	two.joins(s).is(two.spoil(4, 0, 0xff), api.OK).is(two.spoil(0, 0, 0x0f), api.OK)
	one.is(one.spoil(0, 0, 0xf0), api.OK).is(one.lose(1), api.OK)
	two.check()
	writeOver(s.Bytes, 0xee)
	writeOverAll(list)
	one.check()
	two.check()
}

// Two nets that were told the same answer the same, whatever capacities came in.
func TestP0_5SameStepsSameAnswers(t *testing.T) {
	one, two := dice(), dice()
	b, c := begun(t, 7), begun(t, 7)
	for range 2000 {
		step(one, b)
		runtime.Gosched()
		step(two, c)
		if got, want := packetsOf(c.n.List()), packetsOf(b.n.List()); !slices.Equal(got, want) {
			t.Fatalf("P0.5: %s, and %s", brief(got), brief(want))
		}
	}
}

// Each in a goroutine of its own: none knows of the others.
func TestP0_5AtTheSameTime(t *testing.T) {
	var wg sync.WaitGroup
	answers := make([][]packet, 8)
	shared := row(5)
	for i := range answers {
		wg.Go(func() {
			r := dice()
			n, _ := New(20)
			for range 3000 {
				n.Put(shared[r.Intn(5)])
				n.Copy(r.Intn(20))
				n.Spoil(r.Intn(20), r.Intn(5), byte(r.Intn(256)))
				n.Lose(r.Intn(30))
				n.Take(r.Intn(30))
			}
			answers[i] = packetsOf(n.List())
		})
	}
	wg.Wait()
	for i := range answers {
		if !slices.Equal(answers[i], answers[0]) {
			t.Errorf("P0.5: %s, and %s", brief(answers[i]), brief(answers[0]))
		}
	}
	if !slices.Equal(packetsOf(shared), packetsOf(row(5))) {
		t.Errorf("P18.8: what was handed in became %s", brief(packetsOf(shared)))
	}
}

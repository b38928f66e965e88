package under

import (
	"math"
	"testing"

	"weft/api"
)

// takes is that packet i is taken, and is the one that is asked for.
func (b both) takes(i int, want api.Sent) both {
	b.t.Helper()
	if s, err := b.take(i); packetOf(s) != packetOf(want) || err != api.OK {
		b.t.Errorf("P18.3: Take(%d) = %s, %d, want %s", i, short(packetOf(s)), err, short(packetOf(want)))
	}
	return b
}

// takesNone is that there is no packet i for any call, and that nothing changes.
func (b both) takesNone(i int) both {
	b.t.Helper()
	if s, err := b.take(i); s.To != 0 || s.Bytes != nil || err != api.ErrNone {
		b.t.Errorf("P18.3: Take(%d) = %v, %d", i, s, err)
	}
	b.is(b.lose(i), api.ErrNone).is(b.copy(i), api.ErrNone)
	for _, at := range []int{0, 1, -1, math.MinInt, math.MaxInt} {
		b.is(b.spoil(i, at, 1), api.ErrNone).is(b.spoil(i, at, 0), api.ErrNone)
	}
	return b
}

func without(list []api.Sent, i int) []api.Sent {
	return append(append([]api.Sent{}, list[:i]...), list[i+1:]...)
}

// No call finds a packet where there is none: with nothing, with some and with limit packets in flight.
func TestP18_3NoSuchPacket(t *testing.T) {
	for _, c := range []struct{ limit, n int }{{1, 0}, {9, 0}, {1, 1}, {2, 1}, {3, 3}, {9, 5}, {4096, 3}} {
		b := filled(t, c.limit, c.n)
		for _, i := range nowhere {
			b.takesNone(i)
		}
		for _, i := range []int{c.n, c.n + 1, c.n + 9, -c.n - 1} {
			b.takesNone(i)
		}
		b.has(row(c.n)...)
	}
	full := filled(t, 4096, 4096)
	for _, i := range []int{-1, -4096, 4096, 4097, math.MinInt, math.MaxInt} {
		full.takesNone(i)
	}
}

// Where packets were, none is any more when they are gone.
func TestP18_3NoneBehindTheLast(t *testing.T) {
	b := filled(t, 8, 8)
	for n := 8; n > 0; n-- {
		b.takesNone(n)
		if n%2 == 0 {
			b.takes(n-1, row(8)[n-1])
		} else {
			b.is(b.lose(n-1), api.OK)
		}
		b.takesNone(n - 1)
	}
	b.has().takesNone(0)
	b.joins(sent(1, 1)).takesNone(1).takes(0, sent(1, 1)).takesNone(0)
}

// Each of each number of packets is taken, and those behind it move up by one.
func TestP18_3EachPlace(t *testing.T) {
	for n := 1; n <= 9; n++ {
		for i := range n {
			list := row(n)
			filled(t, 9, n).takes(i, list[i]).has(without(list, i)...)
		}
	}
}

func TestP18_5EachPlace(t *testing.T) {
	for n := 1; n <= 9; n++ {
		for i := range n {
			b := filled(t, 9, n)
			b.is(b.lose(i), api.OK).has(without(row(n), i)...)
		}
	}
}

// In any order, till nothing is in flight.
func TestP18_3AllOrders(t *testing.T) {
	const n = 5
	for code := range 5 * 4 * 3 * 2 * 2 * 2 {
		b := filled(t, n, n)
		list := row(n)
		rest := code
		for left := n; left > 0; left-- {
			i := rest % left
			rest /= left
			if (code+left)%2 == 0 {
				b.takes(i, list[i])
			} else {
				b.is(b.lose(i), api.OK)
			}
			list = without(list, i)
			b.has(list...)
		}
		b.takesNone(0)
	}
}

func TestP18_3EndsOfTheGreatestNet(t *testing.T) {
	list := row(4096)
	b := filled(t, 4096, 4096)
	b.takes(4095, list[4095]).takesNone(4095).takes(0, list[0]).takesNone(4094)
	b.is(b.lose(4093), api.OK).is(b.lose(0), api.OK).is(b.lose(2000), api.OK).takesNone(4091)
	b.has(append(append([]api.Sent{}, list[2:2002]...), list[2003:4094]...)...)
}

// The place that a packet leaves holds nothing any more.
func TestP18_3NothingIsLeftBehind(t *testing.T) {
	b := filled(t, 9, 9)
	empty := func() {
		t.Helper()
		for _, s := range b.n.flight[len(b.n.flight):cap(b.n.flight)] {
			if s.To != 0 || s.Bytes != nil {
				t.Fatalf("P18.3: a packet that is gone is still held: %v", s)
			}
		}
	}
	for n := 9; n > 0; n-- {
		if n%2 == 0 {
			b.take(n / 2)
		} else {
			b.lose(n / 2)
		}
		empty()
	}
}

func TestP18_4EachPlace(t *testing.T) {
	for n := 1; n <= 6; n++ {
		for i := range n {
			b := filled(t, n+2, n)
			list := row(n)
			list = append(list, list[i])
			b.is(b.copy(i), api.OK).has(list...)
			b.is(b.copy(n), api.OK).has(append(list, list[i])...) // the copy's copy
			b.is(b.copy(i), api.ErrFull)
		}
	}
}

// At the limit none is doubled; one below it one is.
func TestP18_4AtTheLimit(t *testing.T) {
	for _, limit := range []int{1, 2, 3, 4095, 4096} {
		b := filled(t, limit, limit)
		for _, i := range []int{0, limit / 2, limit - 1} {
			b.is(b.copy(i), api.ErrFull).has(row(limit)...)
		}
		if limit == 1 {
			continue
		}
		for _, i := range []int{0, (limit - 1) / 2, limit - 2} {
			b := filled(t, limit, limit-1)
			list := row(limit - 1)
			b.is(b.copy(i), api.OK).has(append(list, list[i])...).is(b.copy(i), api.ErrFull)
		}
	}
}

// That there is no such packet is told ahead of no room.
func TestP18_4NoneAheadOfFull(t *testing.T) {
	b := filled(t, 3, 3)
	for _, i := range append([]int{3, 4, -3}, nowhere...) {
		b.is(b.copy(i), api.ErrNone)
	}
}

// A packet of any length is doubled whole.
func TestP18_4Lengths(t *testing.T) {
	for _, n := range []int{0, 1, 2, 1500, 65534, 65535} {
		b := begun(t, 2)
		s := sent(math.MaxUint32, run(n)...)
		b.joins(s).is(b.copy(0), api.OK).has(s, s)
	}
}

// From now on they are two packets: what is done to one is not done to the other.
func TestP18_4TwoPackets(t *testing.T) {
	s := sent(5, 1, 2, 3)
	for _, which := range []int{0, 1} {
		b := begun(t, 4)
		b.joins(s).is(b.copy(0), api.OK)
		b.is(b.spoil(which, 1, 0xf0), api.OK)
		two := []api.Sent{s, s}
		two[which] = sent(5, 1, 0xf2, 3)
		b.has(two...)
		b.is(b.copy(which), api.OK).is(b.spoil(2, 2, 1), api.OK)
		b.has(two[0], two[1], sent(5, 1, 0xf2, 2))
		b.is(b.spoil(which, 0, 0x80), api.OK)
		b.takes(which, sent(5, 0x81, 0xf2, 3)).has(s, sent(5, 1, 0xf2, 2))
		b.is(b.lose(1), api.OK).takes(0, s)
	}
}

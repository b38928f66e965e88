package under

import (
	"math"
	"testing"

	"weft/api"
)

// puts is what a Put answers, and what is in flight then.
func (b both) puts(joined int, want api.Errno, list ...api.Sent) both {
	b.t.Helper()
	if k, err := b.put(list...); k != joined || err != want {
		b.t.Errorf("P18.2: Put(%s) = %d, %d, want %d, %d", brief(packetsOf(list)), k, err, joined, want)
	}
	return b
}

func TestP18_2PutOfNone(t *testing.T) {
	b := begun(t, 2)
	b.puts(0, api.OK).has()
	b.put([]api.Sent{}...)
	b.put([]api.Sent(nil)...)
	b.has().joins(sent(1, 1), sent(2, 2))
	b.puts(0, api.OK).has(sent(1, 1), sent(2, 2)) // where there is no room too
}

// They join at the end, in their order, call by call and within a call.
func TestP18_2Order(t *testing.T) {
	list := row(9)
	for cut := range 10 {
		for more := cut; more <= 9; more++ {
			b := begun(t, 9)
			b.joins(list[:cut]...).joins(list[cut:more]...).joins(list[more:]...).has(list...)
		}
	}
	b := begun(t, 9)
	for i, s := range list {
		b.puts(1, api.OK, s).has(list[:i+1]...)
	}
}

func TestP18_2AnyAddress(t *testing.T) {
	addrs := []api.Addr{0, 1, 127<<24 | 1, quad(192, 0, 2, 1), quad(224, 0, 0, 1), quad(240, 0, 0, 0), 1<<31 - 1, 1 << 31, math.MaxUint32 - 1, math.MaxUint32}
	b := begun(t, 4096)
	var list []api.Sent
	for _, a := range addrs {
		list = append(list, sent(a, 1), sent(a))
		b.puts(2, api.OK, sent(a, 1), sent(a))
	}
	b.has(list...)
	r := dice()
	for range 100 {
		s := sent(api.Addr(r.Uint32()), 9)
		list = append(list, s)
		b.puts(1, api.OK, s)
	}
	b.has(list...)
	for _, s := range list {
		got, err := b.take(0)
		if got.To != s.To || err != api.OK {
			t.Errorf("P18.2: to %x, %d, want %x", got.To, err, s.To)
		}
	}
}

func TestP18_2Lengths(t *testing.T) {
	for _, n := range []int{0, 1, 2, 19, 20, 255, 256, 1500, 65534, 65535} {
		b := begun(t, 3)
		s := sent(7, run(n)...)
		b.puts(1, api.OK, s).puts(2, api.OK, s, s).has(s, s, s)
		got, err := b.take(1)
		if len(got.Bytes) != n || err != api.OK {
			t.Errorf("P18.2: %d bytes of %d, %d", len(got.Bytes), n, err)
		}
	}
	for _, n := range []int{65536, 65537, 131071, 131072, 1 << 20} {
		b := begun(t, 3)
		long := sent(7, run(n)...)
		b.puts(0, api.ErrLong, long).has()
		b.puts(1, api.ErrLong, sent(1), long, sent(2)).has(sent(1))
	}
}

// Only the bytes count that a packet has, not its spare room.
func TestP18_2SpareRoomIsNoLength(t *testing.T) {
	b := begun(t, 2)
	room := make([]byte, 70000)
	b.puts(2, api.OK, api.Sent{To: 1, Bytes: room[:3]}, api.Sent{To: 2, Bytes: room[:65535]})
}

func TestP18_2EmptyPackets(t *testing.T) {
	b := begun(t, 4)
	b.puts(3, api.OK, sent(1), api.Sent{To: 2, Bytes: []byte{}}, api.Sent{To: 3, Bytes: make([]byte, 0, 9)})
	b.puts(1, api.ErrFull, api.Sent{}, api.Sent{})
	b.has(sent(1), sent(2), sent(3), sent(0))
}

// One in the midst is too long: those ahead of it have joined, those behind it are not looked at.
func TestP18_2LongInTheMidst(t *testing.T) {
	long := sent(7, make([]byte, 65536)...)
	list := row(5)
	for at := range 6 {
		for _, had := range []int{0, 1, 3} {
			b := filled(t, 20, had)
			mixed := append(append(append([]api.Sent{}, list[:at]...), long), list[at:]...)
			b.puts(at, api.ErrLong, mixed...).has(append(row(had), list[:at]...)...)
			b.puts(at, api.ErrLong, append(mixed, long, long)...)
			b.joins(sent(8, 9)) // it goes on
		}
	}
}

// There is no room in the midst.
func TestP18_2FullInTheMidst(t *testing.T) {
	for limit := 1; limit <= 6; limit++ {
		for had := 0; had <= limit; had++ {
			for n := range 8 {
				b := filled(t, limit, had)
				list := row(n)
				want := api.OK
				joined := n
				if n > limit-had {
					joined, want = limit-had, api.ErrFull
				}
				b.puts(joined, want, list...).has(append(row(had), list[:joined]...)...)
			}
		}
	}
}

// Too long is told ahead of no room, for the packet that is refused; and none behind it counts.
func TestP18_2LongAheadOfFull(t *testing.T) {
	long := sent(7, make([]byte, 65536)...)
	b := filled(t, 2, 2)
	b.puts(0, api.ErrLong, long)
	b.puts(0, api.ErrLong, long, sent(1))
	b.puts(0, api.ErrFull, sent(1), long)
	b.has(row(2)...)
	b.is(b.lose(0), api.OK)
	b.puts(1, api.ErrLong, sent(1), long)
	b.is(b.lose(0), api.OK)
	b.puts(1, api.ErrFull, sent(2), sent(3), long)
	b.has(sent(1), sent(2))
}

func TestP18_2FullToTheGreatestLimit(t *testing.T) {
	list := row(4096)
	b := begun(t, 4096)
	b.joins(list[:4095]...).puts(1, api.ErrFull, list[4095], sent(1)).has(list...)
	b.puts(0, api.ErrFull, sent(1))
	b.puts(0, api.ErrLong, sent(1, make([]byte, 65536)...))
	whole := begun(t, 4096)
	whole.puts(4096, api.ErrFull, append(list, list...)...).has(list...)
}

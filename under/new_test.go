package under

import (
	"math"
	"testing"

	"weft/api"
)

func TestP18_1NoLimit(t *testing.T) {
	for _, limit := range []int{0, -1, -2, -4096, 4097, 4098, 8192, 65536, 1 << 32, 1<<32 + 5, 1 << 62, math.MinInt32, math.MaxInt32, math.MinInt, math.MinInt + 1, math.MaxInt - 1, math.MaxInt} {
		if n, err := New(limit); n != nil || err != api.ErrArg {
			t.Errorf("P18.1: New(%d) = %v, %d", limit, n, err)
		}
	}
}

// Each limit that may be: nothing is in flight, and just so many packets find room.
func TestP18_1EveryLimit(t *testing.T) {
	list := make([]api.Sent, 4097)
	for limit := 1; limit <= 4096; limit++ {
		n, err := New(limit)
		if n == nil || err != api.OK {
			t.Fatalf("P18.1: New(%d) = %v, %d", limit, n, err)
		}
		if l := n.List(); len(l) != 0 {
			t.Fatalf("P18.1: %d packets are in flight at first", len(l))
		}
		if limit > 70 && limit < 4000 && limit%97 != 0 {
			continue
		}
		if k, err := n.Put(list...); k != limit || err != api.ErrFull {
			t.Errorf("P18.1: of limit %d %d found room, %d", limit, k, err)
		}
		if l := n.List(); len(l) != limit {
			t.Errorf("P18.1: of limit %d %d are in flight", limit, len(l))
		}
	}
}

// The limit holds however a packet joins, and there is room again where one is gone.
func TestP18_1LimitStays(t *testing.T) {
	for _, limit := range []int{1, 2, 3, 4096} {
		b := filled(t, limit, limit)
		for range 3 {
			b.is(b.copy(0), api.ErrFull).is(b.copy(limit-1), api.ErrFull)
			if k, err := b.put(sent(1, 2)); k != 0 || err != api.ErrFull {
				t.Errorf("P18.2: %d, %d", k, err)
			}
			b.is(b.lose(limit/2), api.OK).joins(sent(3, 4))
			b.is(b.copy(0), api.ErrFull)
			if _, err := b.take(0); err != api.OK {
				t.Errorf("P18.3: %d", err)
			}
			if limit > 1 {
				b.is(b.copy(limit-2), api.OK)
			} else {
				b.joins(sent(5, 6))
			}
		}
		if got := len(b.list()); got != limit {
			t.Errorf("P18.1: %d of %d", got, limit)
		}
	}
}

package timer

import (
	"math/big"
	"testing"

	"weft/api"
)

// exactAfter is the sum as a whole number of any size, stopped at the ends of int64.
func exactAfter(now, span int64) int64 {
	sum := new(big.Int).Add(big.NewInt(now), big.NewInt(span))
	if sum.Cmp(big.NewInt(most)) > 0 {
		return most
	}
	if sum.Cmp(big.NewInt(least)) < 0 {
		return least
	}
	return sum.Int64()
}

func TestP4_8After(t *testing.T) {
	for _, x := range []struct{ now, span, want int64 }{
		{5, -7, -2},
		{0, 0, 0},
		{most - 2, 5, most},
		{least + 1, -2, least},
		{most, least, -1},
		{least, most, -1},
		{most, 0, most},
		{most - 1, 1, most},
		{most, 1, most},
		{most, most, most},
		{least, 0, least},
		{least + 1, -1, least},
		{least, -1, least},
		{least, least, least},
		{0, least, least},
		{-1, least, least},
		{1, least, least + 1},
		{0, most, most},
		{-1, most, most - 1},
		{1, most, most},
		{100, api.Never, api.Never},
	} {
		if got := After(x.now, x.span); got != x.want {
			t.Errorf("After(%d, %d) = %d, want %d", x.now, x.span, got, x.want)
		}
	}
}

func TestP4_8IsExact(t *testing.T) {
	roll := dice()
	edges := []int64{least, -1 << 62, -1 << 32, 0, 1 << 32, 1 << 62, most}
	some := func() int64 {
		switch roll.Intn(3) {
		case 0:
			return edges[roll.Intn(len(edges))] + roll.Int63n(7) - 3 // around the ends it wraps to the other end: welcome too
		case 1:
			return int64(roll.Uint64())
		default:
			return int64(roll.Uint64()) >> roll.Intn(64)
		}
	}
	for range 200000 {
		now, span := some(), some()
		if got, want := After(now, span), exactAfter(now, span); got != want {
			t.Fatalf("After(%d, %d) = %d, want %d", now, span, got, want)
		}
	}
}

func TestP4_8DeadlinesKeepTheirOrder(t *testing.T) {
	x := made(t, 3)
	x.Set(1, After(most-3, 10))
	x.Set(2, After(most-3, 2))
	x.Set(3, After(most-3, -10))
	if ids := x.Due(most - 1); len(ids) != 2 || ids[0] != 3 || ids[1] != 2 {
		t.Errorf("Due ahead of the end = %v, want 3, 2", ids)
	}
	if ids := x.Due(most); len(ids) != 1 || ids[0] != 1 {
		t.Errorf("Due at the end = %v, want 1", ids)
	}
}

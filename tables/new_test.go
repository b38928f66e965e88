package tables

import (
	"math"
	"testing"

	"weft/api"
)

// Each of the three numbers is looked at, whatever the others are.
func TestP9_1Bounds(t *testing.T) {
	numbers := []int{math.MinInt, -256, -1, 0, 1, 2, 255, 256, 257, 1 << 32, 1<<32 + 1, math.MaxInt}
	fits := func(n int) bool { return n == 1 || n == 2 || n == 255 || n == 256 }
	for _, r := range numbers {
		for _, n := range numbers {
			for _, f := range numbers {
				k, e := New(r, n, f)
				if fits(r) && fits(n) && fits(f) {
					if k == nil || e != api.OK {
						t.Errorf("New(%d, %d, %d) = %v, %d", r, n, f, k, e)
					}
				} else if k != nil || e != api.ErrArg {
					t.Errorf("New(%d, %d, %d) = %v, %d, want ErrArg", r, n, f, k, e)
				}
			}
		}
	}
}

// Each table takes as many as its own number says, and not one more.
func TestP9_1Capacities(t *testing.T) {
	for _, rooms := range [][3]int{{1, 1, 1}, {1, 2, 3}, {3, 1, 2}, {2, 3, 1}, {256, 1, 1}, {1, 256, 1}, {1, 1, 256}, {256, 256, 256}, {255, 256, 254}, {254, 255, 256}, {256, 254, 255}, {7, 100, 31}} {
		k, m := crowded(t, rooms[0], rooms[1], rooms[2])
		for table, room := range rooms {
			refused(t, k, m, 0, api.ErrFull, puts(room)[table])
			refused(t, k, m, 0, api.ErrFull, puts(room + 1)[table])
		}
		d := k.Dump()
		if len(d.Routes) != rooms[0] || len(d.Neighs) != rooms[1] || len(d.Fdbs) != rooms[2] {
			t.Errorf("New(%v) holds %d, %d, %d", rooms, len(d.Routes), len(d.Neighs), len(d.Fdbs))
		}
		check(t, k, m)
	}
}

func TestP9_1Empty(t *testing.T) {
	k, m := made(t, 4, 4, 4)
	check(t, k, m, 0, 1, at(t, "10.1.2.3"), math.MaxUint32)
	if d := k.Dump(); len(d.Routes) != 0 || len(d.Neighs) != 0 || len(d.Fdbs) != 0 {
		t.Errorf("a new kernel has %v", d)
	}
}

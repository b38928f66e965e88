package pool

import (
	"testing"

	"weft/api"
)

// took takes, and holds the answer against the subnet that is wanted.
func took(t *testing.T, p *Pool, m *model, want api.Prefix) {
	t.Helper()
	if s := take(t, p, m); s != want {
		t.Fatalf("Take() = %v, want %v", s, want)
	}
}

func TestP10_2LowestFirst(t *testing.T) {
	p, m := hand(t, 2, 9)
	for n := 2; n <= 9; n++ {
		took(t, p, m, nth(t, n))
		check(t, p, m)
	}
	drain(t, p, m)
	took(t, p, m, api.Prefix{})
}

// A row of one: the first of the network, the last, one within, the network itself.
func TestP10_2RowOfOne(t *testing.T) {
	for _, n := range []int{0, 7, 15} {
		p, m := hand(t, n, n)
		took(t, p, m, nth(t, n))
		drain(t, p, m)
		free(t, p, m, nth(t, n))
		took(t, p, m, nth(t, n))
		drain(t, p, m)
	}
	p, m := made(t, net(t, "10.0.0.0/8"), 8, at(t, "10.0.0.0"), at(t, "10.0.0.0"))
	took(t, p, m, net(t, "10.0.0.0/8"))
	drain(t, p, m)
	p, m = made(t, api.Prefix{}, 0, 0, 0)
	if s, e := p.Take(); s != (api.Prefix{}) || e != api.OK {
		t.Errorf("Take() of the one subnet of all addresses = %v, %d", s, e)
	}
	m.take()
	drain(t, p, m)
}

// Kept ones are left out: the first of the row, the last, single ones and runs, also where they lie between runs of taken ones.
func TestP10_2LeavesKeptOut(t *testing.T) {
	for _, kept := range [][]int{{2}, {9}, {5}, {2, 3}, {8, 9}, {4, 5, 6}, {2, 4, 6, 8}, {3, 5, 7, 9}, {1, 2}, {9, 10}, {0, 1, 10, 15}, {2, 9}, {6, 3, 5, 12, 0}} {
		p, m := hand(t, 2, 9, kept...)
		check(t, p, m)
		drain(t, p, m)
		for n := range 16 {
			free(t, p, m, nth(t, n))
		}
		check(t, p, m)
		drain(t, p, m)
	}
}

// A row of which all are kept gives nothing; a claimed kept one that is given back is not given by Take.
func TestP10_2NeverAKeptOne(t *testing.T) {
	p, m := hand(t, 3, 5, 5, 3, 4)
	drain(t, p, m)
	for n := 3; n <= 5; n++ {
		claim(t, p, m, nth(t, n))
		drain(t, p, m)
	}
	for n := 3; n <= 5; n++ {
		free(t, p, m, nth(t, n))
		drain(t, p, m)
	}
}

// A kept subnet lies between two runs of taken ones, claimed or not: what is free behind the second run comes next.
func TestP10_2KeptBetweenRuns(t *testing.T) {
	for _, claimed := range []bool{false, true} {
		p, m := hand(t, 0, 9, 3)
		if claimed {
			claim(t, p, m, nth(t, 3))
		}
		for _, n := range []int{4, 5, 7} {
			claim(t, p, m, nth(t, n))
		}
		for _, n := range []int{0, 1, 2, 6, 8, 9} {
			took(t, p, m, nth(t, n))
			check(t, p, m)
		}
		drain(t, p, m)
	}
}

// What was given back and lies lower than all that is free comes first.
func TestP10_2LowestBehindAFree(t *testing.T) {
	p, m := hand(t, 0, 15)
	for range 12 {
		take(t, p, m)
	}
	for _, n := range []int{7, 3, 11, 0} {
		free(t, p, m, nth(t, n))
		check(t, p, m)
	}
	for _, n := range []int{0, 3, 7, 11, 12} {
		took(t, p, m, nth(t, n))
		check(t, p, m)
	}
}

// Kept ones that are claimed below the row and behind it do not stand in the way.
func TestP10_2TakenOutsideTheRow(t *testing.T) {
	p, m := hand(t, 5, 6, 0, 3, 4, 7, 15)
	for _, n := range []int{0, 3, 4, 7, 15} {
		claim(t, p, m, nth(t, n))
		check(t, p, m)
	}
	took(t, p, m, nth(t, 5))
	took(t, p, m, nth(t, 6))
	drain(t, p, m)
}

func TestP10_2LastOfAllAddresses(t *testing.T) {
	last := net(t, "255.255.255.255/32")
	p, m := made(t, api.Prefix{}, 32, last.Addr-1, last.Addr)
	took(t, p, m, api.Prefix{Addr: last.Addr - 1, Len: 32})
	took(t, p, m, last)
	drain(t, p, m)
	free(t, p, m, last)
	took(t, p, m, last)
	p, m = made(t, api.Prefix{}, 32, last.Addr-1, last.Addr, last)
	took(t, p, m, api.Prefix{Addr: last.Addr - 1, Len: 32})
	drain(t, p, m)
}

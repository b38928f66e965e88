package pool

import (
	"cmp"
	"slices"
)

// run is the numbers from from to to, both among them.
type run struct {
	from, to int
}

func (r run) has(n int) bool {
	return r.from <= n && n <= r.to
}

func (r run) size() int {
	return r.to - r.from + 1
}

// runs is a set of numbers: its runs rise, and between two of them at least one number is missing. So its length hangs on how many numbers it has, never on how many it lacks.
type runs []run

// seek gives the place of the first run that does not end below n, and whether it has n.
func (rs runs) seek(n int) (int, bool) {
	i, _ := slices.BinarySearchFunc(rs, n, func(r run, n int) int { return cmp.Compare(r.to, n) })
	return i, i < len(rs) && rs[i].has(n)
}

func (rs runs) has(n int) bool {
	_, in := rs.seek(n)
	return in
}

// add lays n to the numbers, and joins the runs that it touches; false, if it is among them already.
func (rs *runs) add(n int) bool {
	list := *rs
	i, in := list.seek(n)
	if in {
		return false
	}
	joined, first, behind := run{from: n, to: n}, i, i
	if i > 0 && list[i-1].to == n-1 {
		first = i - 1
		joined.from = list[i-1].from
	}
	if i < len(list) && list[i].from == n+1 {
		behind = i + 1
		joined.to = list[i].to
	}
	*rs = slices.Replace(list, first, behind, joined)
	return true
}

// remove takes n out, and splits its run where n is not an end of it; false, if n is not among the numbers.
func (rs *runs) remove(n int) bool {
	list := *rs
	i, in := list.seek(n)
	if !in {
		return false
	}
	var left []run
	for _, part := range [2]run{{from: list[i].from, to: n - 1}, {from: n + 1, to: list[i].to}} {
		if part.size() > 0 {
			left = append(left, part)
		}
	}
	*rs = slices.Replace(list, i, i+1, left...)
	return true
}

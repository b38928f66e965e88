package addr

import (
	"cmp"
	"slices"

	"weft/api"
)

// Cover is the least list of prefixes of a range.
func Cover(lo, hi api.Addr) []api.Prefix {
	var list []api.Prefix
	for lo <= hi {
		p := widest(lo, hi)
		list = append(list, p)
		last := lastOf(p)
		// Asked ahead of the step: behind 255.255.255.255 lo would begin again at 0.
		if last == hi {
			break
		}
		lo = last + 1
	}
	return list
}

// widest is the shortest valid prefix that begins at lo and has nothing above hi; lo is not above hi.
func widest(lo, hi api.Addr) api.Prefix {
	n := 32
	for n > 0 && lo&bitsBehind(n-1) == 0 && lo|bitsBehind(n-1) <= hi {
		n--
	}
	return api.Prefix{Addr: lo, Len: n}
}

// Merge is the least list of the same union.
func Merge(ps ...api.Prefix) ([]api.Prefix, api.Errno) {
	if len(ps) > api.MaxMerge {
		return nil, api.ErrLong
	}
	for _, p := range ps {
		if err := check(p); err != api.OK {
			return nil, err
		}
	}
	var list []api.Prefix
	rest := byBase(ps)
	for len(rest) > 0 {
		hi, n := firstRun(rest)
		// A valid prefix has no gap, so it lies in one run whole: each run is covered by itself.
		list = append(list, Cover(rest[0].Addr, hi)...)
		rest = rest[n:]
	}
	return list, api.OK
}

// byBase is a copy of ps, rising by Addr.
func byBase(ps []api.Prefix) []api.Prefix {
	sorted := slices.Clone(ps)
	slices.SortFunc(sorted, func(p, q api.Prefix) int { return cmp.Compare(p.Addr, q.Addr) })
	return sorted
}

// firstRun tells how far the addresses go without a gap from the first prefix on: the last of them, and how many prefixes have them. The list is not empty, and rises by Addr.
func firstRun(sorted []api.Prefix) (api.Addr, int) {
	hi := lastOf(sorted[0])
	n := 1
	// Where hi + 1 wraps round to 0 the first half of the question holds already.
	for n < len(sorted) && (sorted[n].Addr <= hi || sorted[n].Addr == hi+1) {
		hi = max(hi, lastOf(sorted[n]))
		n++
	}
	return hi, n
}

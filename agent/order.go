package agent

import (
	"bytes"
	"cmp"
	"slices"

	"weft/addr"
	"weft/api"
)

func byPrefix(p, q api.Prefix) int {
	if p.Addr != q.Addr {
		return cmp.Compare(p.Addr, q.Addr)
	}
	return cmp.Compare(p.Len, q.Len)
}

func bySubnet(l, m api.Lease) int { return byPrefix(l.Subnet, m.Subnet) }

func byDst(r, s api.Route) int { return byPrefix(r.Dst, s.Dst) }

func byIP(n, m api.Neigh) int { return cmp.Compare(n.IP, m.IP) }

func byMAC(f, g api.Fdb) int { return bytes.Compare(f.MAC[:], g.MAC[:]) }

// inOrder tells whether tables are in order.
func inOrder(t api.Tables) bool {
	for _, r := range t.Routes {
		if !addr.Valid(r.Dst) {
			return false
		}
	}
	return rises(t.Routes, byDst) && rises(t.Neighs, byIP) && rises(t.Fdbs, byMAC)
}

// cloneTables is the same tables in memory of their own.
func cloneTables(t api.Tables) api.Tables {
	return api.Tables{Routes: slices.Clone(t.Routes), Neighs: slices.Clone(t.Neighs), Fdbs: slices.Clone(t.Fdbs)}
}

// rises tells whether the keys of a list rise strictly.
func rises[E any](list []E, order func(E, E) int) bool {
	for i := 1; i < len(list); i++ {
		if order(list[i-1], list[i]) >= 0 {
			return false
		}
	}
	return true
}

// find is the element of a rising list that has the key of e; false, if there is none.
func find[E any](list []E, e E, order func(E, E) int) (E, bool) {
	i, there := slices.BinarySearchFunc(list, e, order)
	if !there {
		var none E
		return none, false
	}
	return list[i], true
}

// has tells whether a rising list has e just so, not its key alone.
func has[E comparable](list []E, e E, order func(E, E) int) bool {
	twin, there := find(list, e, order)
	return there && twin == e
}

// without is the elements of list that the rising list others does not have just so.
func without[E comparable](list, others []E, order func(E, E) int) []E {
	var rest []E
	for _, e := range list {
		if !has(others, e, order) {
			rest = append(rest, e)
		}
	}
	return rest
}

// put lays e into a rising list, in the place of the one that has its key.
func put[E any](list []E, e E, order func(E, E) int) []E {
	i, there := slices.BinarySearchFunc(list, e, order)
	if there {
		list[i] = e
		return list
	}
	return slices.Insert(list, i, e)
}

// drop takes the element that has the key of e out of a rising list.
func drop[E any](list []E, e E, order func(E, E) int) []E {
	i, there := slices.BinarySearchFunc(list, e, order)
	if !there {
		return list
	}
	return slices.Delete(list, i, i+1)
}

// lastOfEach puts a list in order; of several elements with one key the last one stays.
func lastOfEach[E any](list []E, order func(E, E) int) []E {
	slices.SortStableFunc(list, order)
	var rest []E
	for i, e := range list {
		if i+1 == len(list) || order(e, list[i+1]) != 0 {
			rest = append(rest, e)
		}
	}
	return rest
}

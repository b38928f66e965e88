package trie

import (
	"cmp"
	"iter"

	"weft/addr"
	"weft/api"
)

// node stands for one prefix. Nothing in it changes once it is made, so that many trees may have it in common.
type node[V any] struct {
	at     api.Prefix
	value  *V          // nil: the prefix has none, and is there as a fork
	halves [2]*node[V] // the highest node in each half of the prefix, or nil
	count  count
}

// count is of a node and all below it.
type count struct {
	values, nodes int
}

// counted is a node's count, and of no node nothing.
func counted[V any](n *node[V]) count {
	if n == nil {
		return count{}
	}
	return n.count
}

// join gives the tree of a prefix's value (nil: none) and of what lies in its two halves. Where the prefix needs no node of its own, what lies in its one half stands in its place: no other function makes a node, so no tree has one too many.
func join[V any](p api.Prefix, value *V, halves [2]*node[V]) *node[V] {
	if value == nil && (halves[0] == nil || halves[1] == nil) {
		return cmp.Or(halves[0], halves[1])
	}
	low, high := counted(halves[0]), counted(halves[1])
	sum := count{values: low.values + high.values, nodes: low.nodes + high.nodes + 1}
	if value != nil {
		sum.values++
	}
	return &node[V]{at: p, value: value, halves: halves, count: sum}
}

// hang gives the tree that has all of top's values, but p's is value (nil: p has none). top stays as it is.
func hang[V any](top *node[V], p api.Prefix, value *V) *node[V] {
	var halves [2]*node[V]
	if top == nil {
		return join(p, value, halves)
	}
	if top.at == p {
		return join(p, value, top.halves)
	}
	fork := common(p, top.at)
	if fork == top.at {
		halves = top.halves
		side := half(p.Addr, fork.Len)
		halves[side] = hang(halves[side], p, value)
		return join(fork, top.value, halves)
	}
	halves[half(top.at.Addr, fork.Len)] = top
	if fork == p {
		return join(p, value, halves)
	}
	halves[half(p.Addr, fork.Len)] = hang(nil, p, value)
	return join(fork, nil, halves)
}

// highest is the node inside p that all others inside p are below, or nil where there is none.
func highest[V any](top *node[V], p api.Prefix) *node[V] {
	n := top
	for n != nil && n.at.Len < p.Len {
		n = n.halves[half(p.Addr, n.at.Len)]
	}
	// The steps skip bits: what was come to may lie beside p.
	if n == nil || !addr.Contains(p, n.at.Addr) {
		return nil
	}
	return n
}

// holding goes from top down through the nodes whose prefixes hold an address.
func holding[V any](top *node[V], a api.Addr) iter.Seq[*node[V]] {
	return func(yield func(*node[V]) bool) {
		for n := top; n != nil && addr.Contains(n.at, a); n = n.halves[half(a, n.at.Len)] {
			if !yield(n) {
				return
			}
		}
	}
}

// below goes through a node and all below it, rising.
func below[V any](top *node[V]) iter.Seq[*node[V]] {
	return func(yield func(*node[V]) bool) {
		waiting := []*node[V]{top}
		for len(waiting) > 0 {
			n := waiting[len(waiting)-1]
			waiting = waiting[:len(waiting)-1]
			if n == nil {
				continue
			}
			if !yield(n) {
				return
			}
			waiting = append(waiting, n.halves[1], n.halves[0])
		}
	}
}

package flow

import (
	"cmp"

	"weft/api"
	"weft/icmp"
)

// Of tells a packet's tuple.
func Of(p api.Packet) (api.Tuple, api.Errno) {
	inside, err := read(p)
	if err != api.OK {
		return api.Tuple{}, err
	}
	return tupleOf(p.Head, inside), api.OK
}

func tupleOf(h api.Head, inside content) api.Tuple {
	src, dst := inside.ports()
	return api.Tuple{Src: h.Src, Dst: h.Dst, Proto: h.Proto, SrcPort: src, DstPort: dst}
}

// quotedTuple is the tuple of the packet of which a fault speaks; false, if none can be told.
func quotedTuple(p api.Packet) (api.Tuple, bool) {
	h, b, err := icmp.About(p)
	if err != api.OK || h.Off > 0 || len(b) < leastQuoted {
		return api.Tuple{}, false
	}
	inside, known := contentOf(h.Proto, b)
	if !known {
		return api.Tuple{}, false
	}
	return tupleOf(h, inside), true
}

// Back is the tuple of the other direction.
func Back(t api.Tuple) api.Tuple {
	return api.Tuple{Src: t.Dst, Dst: t.Src, Proto: t.Proto, SrcPort: t.DstPort, DstPort: t.SrcPort}
}

func compare(a, b api.Tuple) int {
	return cmp.Or(
		cmp.Compare(a.Src, b.Src),
		cmp.Compare(a.Dst, b.Dst),
		cmp.Compare(a.Proto, b.Proto),
		cmp.Compare(a.SrcPort, b.SrcPort),
		cmp.Compare(a.DstPort, b.DstPort),
	)
}

func byThere(a, b api.Flow) int {
	return compare(a.There, b.There)
}

func byEnd(a, b api.Flow) int {
	return cmp.Or(cmp.Compare(a.Until, b.Until), byThere(a, b))
}

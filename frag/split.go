package frag

import (
	"weft/api"
	"weft/ip4"
)

// Split cuts a packet into fragments.
func Split(p api.Packet, mtu int) ([]api.Packet, api.Errno) {
	if mtu < api.MinMTU {
		return nil, api.ErrMTU
	}
	if err := fault(p); err != api.OK {
		return nil, err
	}
	if size(p) > mtu && p.Head.DF {
		return nil, api.ErrDF
	}
	return cut(p, mtu), api.OK
}

// cut takes pieces off the packet's front till the rest fits. That rest is a packet of its own at each turn: it has p's flag MF, and once something is cut off, the options of later pieces.
func cut(p api.Packet, mtu int) []api.Packet {
	var pieces []api.Packet
	later, _ := ip4.Copied(p.Head.Opts)
	rest := p
	for size(rest) > mtu {
		room := mtu - headSize(rest.Head)
		room -= room % step
		piece := api.Packet{Head: rest.Head, Body: rest.Body[:room]}
		piece.Head.MF = true
		pieces = append(pieces, fresh(piece))
		rest.Head.Off += room
		rest.Head.Opts = later
		rest.Body = rest.Body[room:]
	}
	return append(pieces, fresh(rest))
}

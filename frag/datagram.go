package frag

import (
	"iter"

	"weft/api"
)

// key is what all pieces of a datagram have in common.
type key struct {
	src, dst api.Addr
	proto    byte
	id       uint16
}

func keyOf(h api.Head) key {
	return key{src: h.Src, dst: h.Dst, proto: h.Proto, id: h.ID}
}

// datagram is what has come of one. A step of its body is covered whole or not at all: a piece begins where a step begins and ends where one ends, but for the last piece, behind whose end nothing is taken.
type datagram struct {
	number int      // of its timer; a datagram that was begun later has a greater one
	head   api.Head // of the first piece at offset 0, once step 0 is covered
	length int      // 0 while no piece has told it: a piece without MF never ends at 0
	body   []byte   // as far as the pieces taken reach
	have   []bool   // which steps of the body are covered
	bytes  int      // how many bytes of the body are covered
}

func (d *datagram) covers(at int) bool {
	return at/step < len(d.have) && d.have[at/step]
}

// news goes through the steps of a piece that are not covered yet: where each lies, and its bytes.
func (d *datagram) news(p api.Packet) iter.Seq2[int, []byte] {
	return func(yield func(int, []byte) bool) {
		for from := 0; from < len(p.Body); from += step {
			at := p.Head.Off + from
			if !d.covers(at) && !yield(at, p.Body[from:min(from+step, len(p.Body))]) {
				return
			}
		}
	}
}

// contradicts tells whether a piece cannot be part of the datagram, by what is known of the length.
func (d *datagram) contradicts(p api.Packet) bool {
	end, last := endOf(p), !p.Head.MF
	if d.length > 0 {
		return end > d.length || last && end != d.length
	}
	return last && end < len(d.body)
}

func (d *datagram) lengthWith(p api.Packet) int {
	if p.Head.MF {
		return d.length
	}
	return endOf(p)
}

func (d *datagram) headWith(p api.Packet) api.Head {
	if d.covers(0) || p.Head.Off > 0 {
		return d.head
	}
	return p.Head
}

// isWholeWith tells whether a piece makes the datagram whole. To count bytes is enough, since none is covered behind the length.
func (d *datagram) isWholeWith(p api.Packet) bool {
	bytes := d.bytes
	for _, part := range d.news(p) {
		bytes += len(part)
	}
	length := d.lengthWith(p)
	return length > 0 && bytes == length
}

// joined is the packet that a piece makes of the datagram. It leaves the datagram as it is, since the packet may turn out too long.
func (d *datagram) joined(p api.Packet) api.Packet {
	whole := api.Packet{Head: freshHead(d.headWith(p)), Body: make([]byte, d.lengthWith(p))}
	whole.Head.MF = false
	copy(whole.Body, d.body)
	for at, part := range d.news(p) {
		copy(whole.Body[at:], part)
	}
	return whole
}

// take lays a piece into the datagram. The header goes first: it asks whether step 0 was covered ahead of this piece.
func (d *datagram) take(p api.Packet) {
	d.head = freshHead(d.headWith(p))
	d.length = d.lengthWith(p)
	d.reach(endOf(p))
	for at, part := range d.news(p) {
		d.bytes += copy(d.body[at:], part)
		d.have[at/step] = true
	}
}

// reach makes room up to an end, if the pieces taken do not reach so far.
func (d *datagram) reach(end int) {
	if more := end - len(d.body); more > 0 {
		d.body = append(d.body, make([]byte, more)...)
	}
	if more := (end+step-1)/step - len(d.have); more > 0 {
		d.have = append(d.have, make([]bool, more)...)
	}
}

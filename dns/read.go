package dns

import (
	"bytes"

	"weft/api"
)

const (
	addressSize = 4
	maxHops     = 64   // pointers in one name
	pointerMark = 0xc0 // the first byte of a pointer is this at least
	placeBits   = 1<<14 - 1
)

// A reader reads a message from the front, up to the first fault: from then on it reads zeros.
type reader struct {
	b   []byte
	at  int // what comes next
	err api.Errno
}

func (r *reader) fail(err api.Errno) {
	if r.err == api.OK {
		r.err = err
	}
}

func (r *reader) message() api.Message {
	m := api.Message{ID: uint16(r.number(2))}
	m = withFlags(m, uint16(r.number(2)))
	var counts [4]int
	for i := range counts {
		counts[i] = r.number(2)
	}
	m.Questions = listOf(r, counts[0], r.question)
	m.Answers = listOf(r, counts[1], r.record)
	m.Authority = listOf(r, counts[2], r.record)
	m.Extra = listOf(r, counts[3], r.record)
	if r.at < len(r.b) {
		r.fail(api.ErrDNS)
	}
	return m
}

// listOf reads so many elements one behind the other.
func listOf[E any](r *reader, count int, read func() E) []E {
	var list []E
	for range count {
		e := read()
		if r.err != api.OK {
			return nil
		}
		list = append(list, e)
	}
	return list
}

func (r *reader) question() api.Question {
	name := r.name(len(r.b))
	return api.Question{Name: name, Type: uint16(r.number(2)), Class: uint16(r.number(2))}
}

func (r *reader) record() api.Record {
	c := api.Record{Name: r.name(len(r.b))}
	c.Type, c.Class = uint16(r.number(2)), uint16(r.number(2))
	c.TTL = uint32(r.number(4))
	c.Data = r.data(c.Type, r.number(2))
	return c
}

// data reads a record's data of so many bytes.
func (r *reader) data(typ uint16, size int) []byte {
	end := r.at + size
	switch {
	case end > len(r.b) || typ == api.TypeA && size != addressSize:
		r.fail(api.ErrDNS)
	case holdsName(typ):
		text := r.name(end)
		if r.at != end {
			r.fail(api.ErrDNS)
		}
		return []byte(text)
	default:
		return bytes.Clone(r.take(size))
	}
	return nil
}

// take is the next size bytes, as they lie there; none, if they are not all there.
func (r *reader) take(size int) []byte {
	if r.err != api.OK || size > len(r.b)-r.at {
		r.fail(api.ErrDNS)
		return nil
	}
	r.at += size
	return r.b[r.at-size : r.at]
}

// number reads a number of so many bytes.
func (r *reader) number(size int) int {
	n := 0
	for _, v := range r.take(size) {
		n = n<<8 | int(v)
	}
	return n
}

// name reads a name's text, run by run. Of the run that lies here all bytes lie ahead of end; those that pointers lead to lie in the message as a whole.
func (r *reader) name(end int) string {
	var text []byte
	here := reader{b: r.b[:end], at: r.at, err: r.err}
	hops := 0
run:
	begin := here.at
	first := here.number(1)
	for ; 0 < first && first < pointerMark; first = here.number(1) {
		text = here.label(text, first)
	}
	if first > 0 {
		place := (first<<8 | here.number(1)) & placeBits
		if hops == 0 {
			r.at = here.at
		}
		hops++
		if place < headSize || place >= begin || hops > maxHops {
			here.fail(api.ErrPointer)
		}
		here.b, here.at = r.b, place
		goto run // behind a fault it reads a 0 there, and ends
	}
	if hops == 0 {
		r.at = here.at
	}
	r.err = here.err
	if len(text) == 0 {
		return root
	}
	return string(text)
}

// label reads a label of so many bytes behind the others of its name.
func (r *reader) label(text []byte, size int) []byte {
	if size > maxLabel {
		r.fail(api.ErrDName)
		return text
	}
	if len(text) > 0 {
		text = append(text, dot)
	}
	for _, c := range r.take(size) {
		if !mayStand(c) {
			r.fail(api.ErrDName)
		}
		text = append(text, c)
	}
	if len(text) > maxText {
		r.fail(api.ErrDName)
	}
	return text
}

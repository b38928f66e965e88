package dns

import (
	"strings"

	"weft/api"
)

// check is the error of a message that cannot be written, whichever its size.
func check(m api.Message) api.Errno {
	lists := [...][]api.Record{m.Answers, m.Authority, m.Extra}
	some := func(is func(api.Record) bool) bool {
		for _, list := range lists {
			for _, c := range list {
				if is(c) {
					return true
				}
			}
		}
		return false
	}
	switch {
	case m.Opcode < 0 || m.Opcode > fourBits || m.Code < 0 || m.Code > fourBits:
		return api.ErrArg
	case max(len(m.Questions), len(m.Answers), len(m.Authority), len(m.Extra)) > maxList:
		return api.ErrLong
	case !areNamed(m.Questions) || some(hasNoName):
		return api.ErrDName
	case some(hasNoAddress):
		return api.ErrDNS
	case some(isTooLong):
		return api.ErrLong
	}
	return api.OK
}

func areNamed(questions []api.Question) bool {
	for _, q := range questions {
		if !isName(q.Name) {
			return false
		}
	}
	return true
}

// hasNoName tells whether a record lacks a name, ahead of it or in its data.
func hasNoName(c api.Record) bool {
	return !isName(c.Name) || hasNoTarget(c)
}

// hasNoTarget tells whether a record that should have a name in its data has none.
func hasNoTarget(c api.Record) bool {
	return holdsName(c.Type) && !isName(c.Data)
}

// hasNoAddress tells whether a record that should have an address in its data has none.
func hasNoAddress(c api.Record) bool {
	return c.Type == api.TypeA && len(c.Data) != addressSize
}

func isTooLong(c api.Record) bool {
	return len(c.Data) > maxData
}

// A writer writes a message behind a head that is written last. It keeps where each ending stands of the names that it wrote.
type writer struct {
	b       []byte
	endings map[string]int
	counts  [4]int // the elements that are there, list by list
	cut     bool   // something was left out
}

func (w *writer) head(m api.Message) {
	m.TC = m.TC || w.cut
	put16(w.b, m.ID)
	put16(w.b[atFlags:], flagsOf(m))
	for i, n := range w.counts {
		put16(w.b[atCount+2*i:], uint16(n))
	}
}

func (w *writer) question(q api.Question) {
	w.name(q.Name)
	w.number16(q.Type)
	w.number16(q.Class)
	w.counts[0]++
}

// records writes all records up to the first that does not fit.
func (w *writer) records(m api.Message) {
	for i, list := range [...][]api.Record{m.Answers, m.Authority, m.Extra} {
		for _, c := range list {
			size := len(w.b)
			w.record(c)
			if len(w.b) > maxUDP {
				w.b = w.b[:size]
				w.cut = true
				return
			}
			w.counts[1+i]++
		}
	}
}

func (w *writer) record(c api.Record) {
	w.name(c.Name)
	w.number16(c.Type)
	w.number16(c.Class)
	w.number16(uint16(c.TTL >> 16))
	w.number16(uint16(c.TTL))
	w.number16(0) // the length, till it is known
	size := len(w.b)
	if holdsName(c.Type) {
		w.name(string(c.Data))
	} else {
		w.b = append(w.b, c.Data...)
	}
	put16(w.b[size-2:], uint16(len(w.b)-size))
}

// name writes a name's labels up to its longest ending that stands already, and a pointer to that.
func (w *writer) name(text string) {
	rest, more := text, text != root
	for more {
		if place, stands := w.endings[rest]; stands {
			w.number16(pointerMark<<8 | uint16(place))
			return
		}
		w.endings[rest] = len(w.b)
		var label string
		label, rest, more = strings.Cut(rest, string(dot))
		w.b = append(w.b, byte(len(label)))
		w.b = append(w.b, label...)
	}
	w.b = append(w.b, 0)
}

func (w *writer) number16(v uint16) {
	w.b = append(w.b, byte(v>>8), byte(v))
}

func put16(b []byte, v uint16) {
	b[0], b[1] = byte(v>>8), byte(v)
}

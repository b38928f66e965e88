package dns

import (
	"math/rand"
	"strings"
	"testing"

	"weft/api"
)

// smallName is a name out of few labels.
func smallName(r *rand.Rand) string {
	n := r.Intn(5)
	if n == 0 {
		return "."
	}
	labels := make([]string, n)
	for i := range labels {
		labels[i] = pick(r, "a", "b", "A", "pods", "Pods", "a-b")
	}
	return strings.Join(labels, ".")
}

func smallRecord(r *rand.Rand) api.Record {
	c := api.Record{Name: smallName(r), Type: pick[uint16](r, 1, 5, 12, 16, 28), Class: pick[uint16](r, 1, 1, 3, 65535), TTL: pick(r, 0, 9, 1<<32-1, r.Uint32())}
	switch c.Type {
	case 1:
		c.Data = counted(4)
	case 5, 12:
		c.Data = []byte(smallName(r))
	default:
		c.Data = counted(pick(r, 0, 1, 3, 30, 120))
	}
	return c
}

// smallMessage is one whose head and questions have room.
func smallMessage(r *rand.Rand) api.Message {
	m := api.Message{ID: uint16(r.Int()), Reply: r.Intn(2) == 0, Opcode: r.Intn(16), AA: r.Intn(2) == 0, TC: r.Intn(2) == 0, RD: r.Intn(2) == 0, RA: r.Intn(2) == 0, Code: r.Intn(16)}
	for range r.Intn(5) {
		m.Questions = append(m.Questions, api.Question{Name: smallName(r), Type: uint16(r.Int()), Class: uint16(r.Int())})
	}
	for _, list := range []*[]api.Record{&m.Answers, &m.Authority, &m.Extra} {
		for range r.Intn(9) {
			*list = append(*list, smallRecord(r))
		}
	}
	return m
}

// There and back: with nothing left out what is read is what was written; else it is the front of it.
func TestP24_3ThereAndBack(t *testing.T) {
	r := dice()
	whole, cut := 0, 0
	for range 1500 {
		m := smallMessage(r)
		got := mustParse(t, mustBuild(t, m))
		if len(m.Answers) == len(got.Answers) && len(m.Authority) == len(got.Authority) && len(m.Extra) == len(got.Extra) {
			whole++
			if !same(got, m) {
				t.Fatalf("P24.3: %s came back as %s", show(m), show(got))
			}
			continue
		}
		cut++
		m.TC = true
		m.Answers, m.Authority, m.Extra = m.Answers[:len(got.Answers)], m.Authority[:len(got.Authority)], m.Extra[:len(got.Extra)]
		if !same(got, m) {
			t.Fatalf("P24.3: the front %s came back as %s", show(m), show(got))
		}
	}
	if whole < 500 || cut < 100 {
		t.Errorf("the test's own messages: %d whole, %d cut", whole, cut)
	}
}

// The longest chain that can be written: each name leads to the one before it, and all can be read.
func TestP24_3Chains(t *testing.T) {
	var m api.Message
	name := "a"
	for range 62 {
		m.Questions = append(m.Questions, q(name))
		name = "b." + name
	}
	b := mustBuild(t, m)
	if got := mustParse(t, b); len(b) != 12+7+61*8 || !same(got, m) {
		t.Errorf("P24.3: %d bytes came back as %s", len(b), show(got))
	}
	m.Questions = append(m.Questions, q(name))
	cannot(t, m, api.ErrBig)
}

// Names of all lengths, and texts with all letters.
func TestP24_3Names(t *testing.T) {
	for _, n := range names() {
		m := api.Message{Questions: asks(n), Answers: []api.Record{cname(n, n)}, Extra: []api.Record{pointer(strings.ToUpper(n), strings.ToLower(n))}}
		b := mustBuild(t, m)
		if got := mustParse(t, b); b[2] == 0 && !same(got, m) {
			t.Errorf("P24.3: %q came back as %s", n, show(got))
		}
	}
}

// What was read can be written, and read again, if it has room.
func TestP24_3ReadFirst(t *testing.T) {
	m := mustParse(t, sound())
	if got := mustParse(t, mustBuild(t, m)); !same(got, m) {
		t.Errorf("P24.3: %s came back as %s", show(m), show(got))
	}
	for at := range sound() {
		for _, flip := range []byte{1, 2, 0x20, 0x80} {
			b := sound()
			b[at] ^= flip
			m, err := parsed(t, b)
			if err != api.OK {
				continue
			}
			if got := mustParse(t, mustBuild(t, m)); !same(got, m) {
				t.Errorf("P24.3: %s came back as %s", show(m), show(got))
			}
		}
	}
}

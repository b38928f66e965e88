package dns

import (
	"bytes"
	"fmt"
	"math/rand"
	"strings"
	"sync"
	"testing"

	"weft/api"
)

// wildBytes are bytes of which many look like parts of names.
func wildBytes(r *rand.Rand) []byte {
	b := head(r.Intn(3), r.Intn(3), r.Intn(2), r.Intn(2))
	b[2], b[3] = byte(r.Int()), byte(r.Int())
	for range r.Intn(12) {
		switch r.Intn(9) {
		case 0:
			b = append(b, lab(pick(r, "a", "web", "pods", "a b", "x-y"))...)
		case 1:
			b = append(b, 0)
		case 2:
			b = append(b, ptr(r.Intn(len(b)+2))...)
		case 3:
			b = append(b, que(nam(smallName(r))...)...)
		case 4:
			b = append(b, rec(nam(smallName(r)), pick(r, 1, 5, 12, 16), counted(pick(r, 0, 3, 4, 5))...)...)
		case 5:
			b = append(b, rec(ptr(pick(r, 12, 12, 13, r.Intn(len(b)+1))), pick(r, 1, 5, 12), nam(smallName(r))...)...)
		case 6:
			b = append(b, two(pick(r, 1, 5, 12))...)
		case 7:
			b = append(b, hx("0001 0001")...)
		case 8:
			b = append(b, byte(r.Int()), byte(r.Intn(4)))
		}
	}
	return b
}

// wildText is seldom a name.
func wildText(r *rand.Rand) string {
	switch r.Intn(12) {
	case 0:
		return pick(r, notNames()...)
	case 1:
		b := make([]byte, r.Intn(300))
		r.Read(b)
		return string(b)
	case 2:
		return text(pick(r, 3, 63, 64, 65, 66, 253, 254, 255, 256))
	}
	return smallName(r)
}

func wildRecord(r *rand.Rand) api.Record {
	c := smallRecord(r)
	switch r.Intn(12) {
	case 0:
		c.Name = wildText(r)
	case 1:
		c.Data = counted(pick(r, 0, 3, 4, 5, 400, 501, 502, 65535, 65536))
	case 2:
		c.Data = []byte(wildText(r))
	case 3:
		c.Type = uint16(r.Int())
	}
	return c
}

func wildMessage(r *rand.Rand) api.Message {
	m := smallMessage(r)
	switch r.Intn(10) {
	case 0:
		m.Opcode = pick(r, least, -1, 16, most)
	case 1:
		m.Code = pick(r, least, -1, 16, most)
	case 2:
		m.Questions = append(m.Questions, q(wildText(r)))
	case 3:
		m.Answers = append(m.Answers, wildRecord(r))
	case 4:
		m.Authority = append(m.Authority, wildRecord(r))
	case 5:
		m.Extra = append(m.Extra, wildRecord(r))
	case 6:
		m.Questions = asks(strings.Split(strings.Repeat(smallName(r)+" ", r.Intn(120))+".", " ")...)
	}
	return m
}

// Any arguments: every call ends and none panics, and answers as the model does.
func TestP0_1AnyBytes(t *testing.T) {
	r := dice()
	seen := map[api.Errno]int{}
	for range 60000 {
		_, err := parsed(t, wildBytes(r))
		seen[err]++
	}
	for range 20000 {
		b := make([]byte, r.Intn(80))
		r.Read(b)
		if len(b) > 12 && r.Intn(2) == 0 {
			copy(b[4:], head(r.Intn(2), r.Intn(2), r.Intn(2), r.Intn(2))[4:])
		}
		_, err := parsed(t, b)
		seen[err]++
	}
	for _, err := range []api.Errno{api.OK, api.ErrDNS, api.ErrDName, api.ErrPointer} {
		if seen[err] < 150 {
			t.Errorf("the test's own bytes are answered %v", seen)
		}
	}
}

// Long bytes that take long to read, where each name goes over many pointers.
func TestP0_1LongBytes(t *testing.T) {
	b := chain(64, strings.Split(strings.Repeat("bb.", 63)+"bb", ".")...)
	last := b[len(b)-12 : len(b)-10]
	count := (65535 - len(b)) / 12
	b = append(b, bytes.Repeat(rec(last, 16), count)...)
	copy(b[6:], two(2+count))
	if m := mustParse(t, b); len(m.Answers) != 2+count || len(m.Answers[1+count].Name) != 64*3-1 {
		t.Errorf("P24.1: %d records", len(m.Answers))
	}
	for _, v := range []byte{0, 1, 63, 64, 0xc0, 0xff, 'a'} {
		for _, n := range []int{65535, 65536, 1 << 20} {
			parsed(t, bytes.Repeat([]byte{v}, n))
		}
	}
}

func TestP0_1AnyMessages(t *testing.T) {
	r := dice()
	seen := map[api.Errno]int{}
	for range 1500 {
		_, err := built(t, wildMessage(r))
		seen[err]++
	}
	for _, err := range []api.Errno{api.OK, api.ErrArg, api.ErrLong, api.ErrDName, api.ErrDNS, api.ErrBig} {
		if seen[err] < 3 {
			t.Errorf("the test's own messages are answered %v", seen)
		}
	}
}

func TestP0_1AnyQuestions(t *testing.T) {
	r := dice()
	codes := map[int]int{}
	for range 8000 {
		m := wildMessage(r)
		m.Reply, m.Opcode = r.Intn(20) == 0, pick(r, 0, 0, 0, 0, 0, 0, m.Opcode)
		if len(m.Questions) > 1 && r.Intn(8) > 0 {
			m.Questions = m.Questions[:1]
			m.Questions[0].Class = pick[uint16](r, 1, 1, 1, 1, 1, 3, 0)
			m.Questions[0].Type = pick[uint16](r, 1, 5, 12, 16, m.Questions[0].Type)
		}
		var z []api.Record
		for range r.Intn(30) {
			z = append(z, wildRecord(r))
		}
		reply, _ := answered(t, m, z)
		codes[reply.Code]++
		a, b := wildText(r), wildText(r)
		if Equal(a, b) != modelEqual(a, b) || Equal(a, strings.ToUpper(a)) != modelEqual(a, strings.ToUpper(a)) {
			t.Fatalf("P24.4: Equal(%q, %q)", a, b)
		}
	}
	for _, code := range []int{0, 1, 3, 4, 5} {
		if codes[code] < 100 {
			t.Errorf("the test's own questions are answered %v", codes)
		}
	}
}

// A nil list is the same as an empty one.
func TestP0_4NilAndEmpty(t *testing.T) {
	none := api.Message{}
	empty := api.Message{Questions: []api.Question{}, Answers: []api.Record{}, Authority: []api.Record{}, Extra: []api.Record{}}
	for _, m := range []api.Message{none, empty} {
		if b := mustBuild(t, m); !bytes.Equal(b, make([]byte, 12)) {
			t.Errorf("P0.4: %x", b)
		}
		for _, z := range [][]api.Record{nil, {}} {
			if reply, err := answered(t, m, z); err != api.OK || reply.Code != api.CodeForm {
				t.Errorf("P0.4: %+v, %d", reply, err)
			}
			replies(t, q("a"), z, api.CodeName)
		}
	}
	for _, data := range [][]byte{nil, {}} {
		for _, typ := range []uint16{1, 5, 12, 16} {
			c := api.Record{Name: "a", Type: typ, Class: 1, Data: data}
			_, err := built(t, api.Message{Answers: []api.Record{c}})
			if want := map[uint16]api.Errno{1: api.ErrDNS, 5: api.ErrDName, 12: api.ErrDName}[typ]; err != want {
				t.Errorf("P0.4: type %d without data: %d", typ, err)
			}
			answered(t, api.Message{Questions: asks("a")}, []api.Record{c})
		}
	}
	for _, b := range [][]byte{nil, {}} {
		refuses(t, b, api.ErrDNS)
	}
}

// The same calls are answered alike, in whichever goroutine, and whatever was asked ahead of them.
func TestP0_5SameCallsSameAnswers(t *testing.T) {
	play := func(ahead int) string {
		r := dice()
		for range ahead {
			Build(api.Message{Questions: asks("ahead.of.all")})
			Parse(sound())
		}
		var told []any
		for range 300 {
			m := wildMessage(r)
			b, err := Build(m)
			got, err2 := Parse(wildBytes(r))
			reply, err3 := Answer(m, m.Extra)
			told = append(told, b, err, got, err2, reply, err3, Equal(wildText(r), wildText(r)), Reverse(api.Addr(r.Uint32())))
		}
		return fmt.Sprint(told...)
	}
	var wg sync.WaitGroup
	answers := make([]string, 8)
	for i := range answers {
		wg.Go(func() { answers[i] = play(i) })
	}
	wg.Wait()
	for _, a := range answers {
		if a != answers[0] {
			t.Fatal("P0.5: the same calls were answered otherwise")
		}
	}
}

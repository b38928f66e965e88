package dns

import (
	"bytes"
	"strings"
	"testing"

	"weft/api"
)

// lists are messages that have the list in each of the three places where records stand.
func lists(list ...api.Record) []api.Message {
	return []api.Message{{Answers: list}, {Authority: list}, {Extra: list}}
}

// notNames are texts that are no names.
func notNames() []string {
	list := []string{"", "..", "a.", ".a", "a..b", "a.b.", "...", " ", "a b", "a@", "a/b", "a:b", "[", "`", "{", "ä", "\u212a", "\u017f", "a\x00", "\x00", "a,b", text(256), text(300), strings.Repeat("m", 64), "a." + strings.Repeat("m", 64) + ".b", strings.Repeat("a.", 127) + "a", strings.Repeat("a", 70000)}
	for v := range 256 {
		if c := byte(v); c != '-' && c != '_' && !('0' <= c && c <= '9' || 'A' <= c && c <= 'Z' || 'a' <= c && c <= 'z') {
			list = append(list, "a"+string([]byte{c}), string([]byte{c})+"a")
		}
	}
	return list
}

// names are texts that are names.
func names() []string {
	list := []string{".", "a", "Z", "0", "-", "_", "a.b", "A.B", "10.5.2.2", "-a-._._", strings.Repeat("m", 63), strings.Repeat("m", 63) + "." + strings.Repeat("n", 63), text(254), text(255), strings.Repeat("a.", 126) + "a"}
	for _, c := range "ABCDEFGHIJKLMNOPQRSTUVWXYZabcdefghijklmnopqrstuvwxyz0123456789-_" {
		list = append(list, string(c), "a"+string(c), string(c)+"a")
	}
	return list
}

func TestP24_2Numbers(t *testing.T) {
	for _, n := range []int{least, -16, -1, 16, 17, 255, 65536, most} {
		cannot(t, api.Message{Opcode: n}, api.ErrArg)
		cannot(t, api.Message{Code: n}, api.ErrArg)
		cannot(t, api.Message{Opcode: n, Code: 3}, api.ErrArg)
		cannot(t, api.Message{Opcode: 3, Code: n}, api.ErrArg)
	}
	for opcode := range 16 {
		for code := range 16 {
			b := mustBuild(t, api.Message{Opcode: opcode, Code: code})
			if !bytes.Equal(b, []byte{0, 0, byte(opcode << 3), byte(code), 0, 0, 0, 0, 0, 0, 0, 0}) {
				t.Errorf("P24.2: opcode %d and code %d are %x", opcode, code, b)
			}
		}
	}
}

// Each bit of the head, alone and beside the others.
func TestP24_2Flags(t *testing.T) {
	for i := range 32 {
		m := api.Message{ID: 0xa55a, Opcode: 5, Code: 10, Reply: i&1 > 0, AA: i&2 > 0, TC: i&4 > 0, RD: i&8 > 0, RA: i&16 > 0}
		want := hx("a55a 280a 0000 0000 0000 0000")
		for _, f := range []struct {
			set bool
			at  int
			bit byte
		}{{m.Reply, 2, 0x80}, {m.AA, 2, 4}, {m.TC, 2, 2}, {m.RD, 2, 1}, {m.RA, 3, 0x80}} {
			if f.set {
				want[f.at] |= f.bit
			}
		}
		if b := mustBuild(t, m); !bytes.Equal(b, want) {
			t.Errorf("P24.2: the head of %+v is %x, want %x", m, b, want)
		}
	}
	for _, id := range []uint16{0, 1, 255, 256, 65535} {
		if b := mustBuild(t, api.Message{ID: id}); !bytes.Equal(b[:2], two(int(id))) {
			t.Errorf("P24.2: the ID %d is %x", id, b[:2])
		}
	}
}

// All parts in their order, with every field.
func TestP24_2Parts(t *testing.T) {
	m := api.Message{Questions: []api.Question{{Name: "a", Type: 0xfedc, Class: 0xba98}, {Name: "."}},
		Answers:   []api.Record{{Name: "b", Type: 0x7654, Class: 0x3210, TTL: 0xfedcba98, Data: []byte{1, 2, 3}}},
		Authority: []api.Record{a("c", 10, 5, 2, 2), cname("d", "e")},
		Extra:     []api.Record{raw("."), pointer("f", "g.h"), raw("i", 1)}}
	want := join(head(2, 1, 2, 3), hx("01 61 00 fedc ba98 00 0000 0000"),
		hx("01 62 00 7654 3210 fedcba98 0003 010203"),
		rec(nam("c"), 1, 10, 5, 2, 2), rec(nam("d"), 5, nam("e")...),
		rec(nam("."), 16), rec(nam("f"), 12, nam("g.h")...), rec(nam("i"), 16, 1))
	if b := mustBuild(t, m); !bytes.Equal(b, want) {
		t.Errorf("P24.2: %x, want %x", b, want)
	}
}

func TestP24_2Names(t *testing.T) {
	for _, n := range names() {
		want := join(head(1, 0, 0, 0), que(nam(n)...))
		if b := mustBuild(t, api.Message{Questions: asks(n)}); !bytes.Equal(b, want) {
			t.Errorf("P24.2: %q is %x", n, b)
		}
		for _, c := range []api.Record{raw(n), cname(".", n), pointer(".", n)} {
			for _, m := range lists(c) {
				mustBuild(t, m)
			}
		}
	}
	for _, n := range notNames() {
		cannot(t, api.Message{Questions: asks(n)}, api.ErrDName)
		cannot(t, api.Message{Questions: asks("a", n, "b")}, api.ErrDName)
		for _, c := range []api.Record{raw(n), a(n, 1, 2, 3, 4), cname(".", n), pointer(".", n), cname(n, "."), {Name: ".", Type: 5, Class: 3, Data: []byte(n)}} {
			for i := range 3 {
				list := []api.Record{raw("a"), raw("b"), raw("c")}
				list[i] = c
				for _, m := range lists(list...) {
					cannot(t, m, api.ErrDName)
				}
			}
		}
		mustBuild(t, api.Message{Extra: []api.Record{raw("a", []byte(n)[:min(len(n), 400)]...)}}) // of other types any data
	}
}

// What a record that would not fit has wrong is told too.
func TestP24_2FaultsBehindTheEnd(t *testing.T) {
	for _, c := range []struct {
		c   api.Record
		err api.Errno
	}{{raw("a..b"), api.ErrDName}, {cname("a", ""), api.ErrDName}, {pointer("a", "b."), api.ErrDName}, {a("a", 1, 2, 3), api.ErrDNS}, {raw("a", make([]byte, 65536)...), api.ErrLong}} {
		for _, m := range lists(blank(500), blank(500), c.c) {
			cannot(t, m, c.err)
		}
		cannot(t, api.Message{Answers: []api.Record{blank(1000)}, Extra: []api.Record{c.c}}, c.err)
	}
}

func TestP24_2Data(t *testing.T) {
	for size := range 9 {
		for _, m := range lists(raw("a"), a("a", counted(size)...)) {
			if size == 4 {
				mustBuild(t, m)
			} else {
				cannot(t, m, api.ErrDNS)
			}
		}
	}
	for _, class := range []uint16{0, 3, 255} { // the class does not matter
		cannot(t, api.Message{Answers: []api.Record{{Name: "a", Type: 1, Class: class, Data: counted(5)}}}, api.ErrDNS)
	}
	for _, size := range []int{501, 512, 65534, 65535} {
		for _, m := range lists(raw("a", make([]byte, size)...)) {
			if b := mustBuild(t, m); len(b) != 12 || b[2] != 2 {
				t.Errorf("P24.2: data of %d bytes: %x", size, b)
			}
		}
	}
	for _, size := range []int{65536, 65537, 1 << 20} {
		for _, m := range lists(raw("a", make([]byte, size)...)) {
			cannot(t, m, api.ErrLong)
		}
		cannot(t, api.Message{Extra: []api.Record{cname("a", strings.Repeat("m", size))}}, api.ErrDName)
		cannot(t, api.Message{Extra: []api.Record{a("a", make([]byte, size)...)}}, api.ErrDNS)
	}
}

// Lists of 65535 and of 65536 elements.
func TestP24_2Lists(t *testing.T) {
	for _, n := range []int{65535, 65536, 70000} {
		many := make([]api.Record, n)
		err := api.ErrLong
		if n == 65535 {
			err = api.ErrDName // no names
		}
		cannot(t, api.Message{Questions: make([]api.Question, n)}, err)
		for _, m := range lists(many...) {
			cannot(t, m, err)
		}
		for i := range many {
			many[i].Name = "."
		}
		for _, m := range lists(many...) {
			if n > 65535 {
				cannot(t, m, api.ErrLong)
				continue
			}
			b := mustBuild(t, m)
			if len(b) != 12+45*11 || b[2] != 2 || b[7]+b[9]+b[11] != 45 {
				t.Errorf("P24.2: %d records: %d bytes, the head %x", n, len(b), b[:12])
			}
		}
	}
	roots := make([]api.Question, 65536)
	for i := range roots {
		roots[i].Name = "."
	}
	cannot(t, api.Message{Questions: roots[:65535]}, api.ErrBig)
	cannot(t, api.Message{Questions: roots}, api.ErrLong)
}

// Of several faults the first of the chapter's kinds is told, wherever it is.
func TestP24_2FirstFault(t *testing.T) {
	faults := []func(m *api.Message, at int){
		func(m *api.Message, at int) { m.Opcode = 16 },
		func(m *api.Message, at int) { m.Extra = append(m.Extra, make([]api.Record, 65536)...) },
		func(m *api.Message, at int) { put(m, at, raw("a..b")) },
		func(m *api.Message, at int) { put(m, at, a("a", 1, 2, 3)) },
		func(m *api.Message, at int) { put(m, at, raw("a", make([]byte, 65536)...)) },
		func(m *api.Message, at int) { m.Questions = asks(text(255), strings.ToUpper(text(255))) },
	}
	errs := []api.Errno{api.ErrArg, api.ErrLong, api.ErrDName, api.ErrDNS, api.ErrLong, api.ErrBig}
	for i := range faults {
		for j := range faults {
			for at := range 3 {
				for other := range 3 {
					var m api.Message
					faults[i](&m, at)
					faults[j](&m, other)
					cannot(t, m, errs[min(i, j)])
				}
			}
		}
	}
	cannot(t, api.Message{Questions: asks("a", ""), Answers: []api.Record{a("a")}}, api.ErrDName)
	cannot(t, api.Message{Answers: []api.Record{a("", 1, 2, 3)}}, api.ErrDName)
	cannot(t, api.Message{Answers: []api.Record{a("b"), cname("a", "")}}, api.ErrDName)
	cannot(t, api.Message{Questions: make([]api.Question, 65536), Code: 16}, api.ErrArg)
}

// put lays a record behind the others of one of three lists.
func put(m *api.Message, at int, c api.Record) {
	list := []*[]api.Record{&m.Answers, &m.Authority, &m.Extra}[at]
	*list = append(*list, c)
}

// Head and questions of 511, 512 and 513 bytes.
func TestP24_2Big(t *testing.T) {
	for _, size := range []int{510, 511, 512, 513, 514} {
		m := api.Message{Questions: asks(text(255), strings.ToUpper(text(size-12-259-4)))}
		if size > 512 {
			cannot(t, m, api.ErrBig)
			for _, r := range lists(raw("a")) {
				r.Questions = m.Questions
				cannot(t, r, api.ErrBig)
			}
			continue
		}
		if b := mustBuild(t, m); len(b) != size || b[2] != 0 {
			t.Errorf("P24.2: %d bytes, want %d", len(b), size)
		}
		m.TC = true
		if b := mustBuild(t, m); b[2] != 2 {
			t.Errorf("P24.2: TC is let go: %x", b[:12])
		}
		m.TC, m.Extra = false, []api.Record{raw(".")}
		if b := mustBuild(t, m); len(b) != size || b[2] != 2 || b[11] != 0 {
			t.Errorf("P24.2: a record fits behind %d bytes: %x", size, b)
		}
	}
	many := asks(strings.Split(strings.Repeat(". ", 99)+".", " ")...)
	if b := mustBuild(t, api.Message{Questions: many}); len(b) != 512 || b[5] != 100 {
		t.Errorf("P24.2: %d bytes", len(b))
	}
	cannot(t, api.Message{Questions: append(many, q("."))}, api.ErrBig)
	// what is shared makes room
	shared := asks(text(255), text(255), text(255), text(255), text(255))
	if b := mustBuild(t, api.Message{Questions: shared}); len(b) != 12+259+4*6 {
		t.Errorf("P24.2: %d bytes", len(b))
	}
}

package dns

import (
	"bytes"
	"testing"

	"weft/api"
)

// sound is a message that has something of everything.
func sound() []byte {
	return join(hx("1234 8593"), two(2), two(3), two(2), two(3),
		que(nam("Web.pods")...),                               // 12: "pods" at 16
		join(lab("x"), ptr(16), hx("000c fffe")),              // 26
		rec(ptr(12), 5, nam("a-1.pods")...),                   // 34: the data at 46
		rec(ptr(46), 1, 10, 5, 2, 2),                          // 56
		rec(nam("."), 16, hx("00ff c00c 41")...),              // 72
		rec(nam("_b"), 12, join(lab("c"), ptr(16))...),        // 88
		rec(nam("."), 65535),                                  // 106
		join(ptr(26), hx("0005 ffff 89abcdef 0002"), ptr(46)), // 117
		rec(ptr(16), 12, 0),                                   // 131
		rec(ptr(26), 0, 1))                                    // 144
}

func TestP24_1Sound(t *testing.T) {
	m := mustParse(t, sound())
	want := api.Message{ID: 0x1234, Reply: true, AA: true, RD: true, RA: true, Code: 3, Questions: []api.Question{q("Web.pods"), {Name: "x.pods", Type: 12, Class: 0xfffe}},
		Answers:   []api.Record{cname("Web.pods", "a-1.pods"), a("a-1.pods", 10, 5, 2, 2), raw(".", hx("00ff c00c 41")...)},
		Authority: []api.Record{pointer("_b", "c.pods"), {Name: ".", Type: 65535, Class: 1, TTL: 9}},
		Extra:     []api.Record{{Name: "x.pods", Type: 5, Class: 0xffff, TTL: 0x89abcdef, Data: []byte("a-1.pods")}, pointer("pods", "."), {Name: "x.pods", Class: 1, TTL: 9, Data: []byte{1}}}}
	if !same(m, want) {
		t.Errorf("P24.1: %+v, want %+v", m, want)
	}
}

// Bytes that end ahead of each part in turn, or behind the last.
func TestP24_1EndsAhead(t *testing.T) {
	b := sound()
	for n := range len(b) {
		refuses(t, b[:n], api.ErrDNS)
		refuses(t, b[:n:n], api.ErrDNS)
	}
	for _, more := range []string{"00", "c0", "c00c", "0000010001"} {
		refuses(t, join(b, hx(more)), api.ErrDNS)
	}
}

func TestP24_1Sizes(t *testing.T) {
	for n := range 12 {
		refuses(t, make([]byte, n), api.ErrDNS)
		refuses(t, bytes.Repeat([]byte{0xff}, n), api.ErrDNS)
	}
	if m := mustParse(t, make([]byte, 12)); !isZero(m) {
		t.Errorf("P24.1: 12 bytes 0 are %+v", m)
	}
	for _, n := range []int{13, 14, 512, 513, 65534, 65535} {
		refuses(t, make([]byte, n), api.ErrDNS)
	}
	for _, n := range []int{65536, 65537, 1 << 20} {
		refuses(t, make([]byte, n), api.ErrLong)
	}
	full := join(head(0, 1, 0, 0), rec(nam("."), 99, make([]byte, 65535-23)...))
	if m := mustParse(t, full); len(full) != 65535 || len(m.Answers[0].Data) != 65535-23 {
		t.Errorf("P24.1: %d bytes are %d", len(full), len(m.Answers[0].Data))
	}
	refuses(t, append(full, 0), api.ErrLong)
	refuses(t, append(join(head(1, 0, 0, 0), hx("41")), make([]byte, 65536)...), api.ErrLong) // ahead of what is in it
}

// Each bit of the flags, alone and left out, those that are not used too.
func TestP24_1Flags(t *testing.T) {
	for word := range 1 << 16 {
		m := mustParse(t, join(two(word^0xabcd), two(word), make([]byte, 8)))
		if m.ID != uint16(word^0xabcd) || m.Opcode != word>>11%16 || m.Code != word%16 {
			t.Fatalf("P24.1: flags %04x: %+v", word, m)
		}
		for bit, set := range map[int]bool{15: m.Reply, 10: m.AA, 9: m.TC, 8: m.RD, 7: m.RA} {
			if set != (word>>bit%2 == 1) {
				t.Fatalf("P24.1: flags %04x: %+v", word, m)
			}
		}
	}
}

// Each of the four numbers counts its own kind.
func TestP24_1Counts(t *testing.T) {
	r := dice()
	for range 300 {
		n := [4]int{r.Intn(3), r.Intn(3), r.Intn(3), r.Intn(3)}
		b := head(n[0], n[1], n[2], n[3])
		for range n[0] {
			b = append(b, que(0)...)
		}
		for range n[1] + n[2] + n[3] {
			b = append(b, rec(nam("."), 16, byte(len(b)))...)
		}
		m := mustParse(t, b)
		if [4]int{len(m.Questions), len(m.Answers), len(m.Authority), len(m.Extra)} != n {
			t.Errorf("P24.1: the numbers %v are %+v", n, m)
		}
	}
	many := 65523 / 5
	b := join(head(many, 0, 0, 0), bytes.Repeat(que(0), many))
	if m := mustParse(t, b); len(m.Questions) != many || m.Questions[many-1] != q(".") {
		t.Errorf("P24.1: %d questions are %d", many, len(m.Questions))
	}
	for i := range 4 {
		b := make([]byte, 12)
		copy(b[4+2*i:], "\xff\xff")
		refuses(t, b, api.ErrDNS)
	}
}

// Every field of a record lies where it should, and all of its bits count.
func TestP24_1Fields(t *testing.T) {
	m := mustParse(t, join(head(1, 1, 0, 0), hx("00 fedc ba98"), hx("00 7654 3210 fedcba98 0003 010203")))
	if m.Questions[0] != (api.Question{Name: ".", Type: 0xfedc, Class: 0xba98}) {
		t.Errorf("P24.1: the question is %+v", m.Questions[0])
	}
	if !sameRecords(m.Answers, []api.Record{{Name: ".", Type: 0x7654, Class: 0x3210, TTL: 0xfedcba98, Data: []byte{1, 2, 3}}}) {
		t.Errorf("P24.1: the answer is %+v", m.Answers[0])
	}
}

// Where two faults could be told, the first that is met is.
func TestP24_1FirstFault(t *testing.T) {
	for _, x := range []struct {
		parts [][]byte
		err   api.Errno
	}{
		{[][]byte{head(2, 0, 0, 0), hx("41"), ptr(12)}, api.ErrDName},
		{[][]byte{head(2, 0, 0, 0), ptr(12), hx("0001 0001 41")}, api.ErrPointer},
		{[][]byte{head(2, 0, 0, 0), hx("00 0001 00")}, api.ErrDNS},
		{[][]byte{head(1, 1, 0, 0), que(0), rec(nam("."), 1, 1, 2, 3), hx("41")}, api.ErrDNS},
		{[][]byte{head(0, 2, 0, 0), rec(nam("."), 1, 1, 2, 3), rec(hx("41"), 16)}, api.ErrDNS},
		{[][]byte{head(0, 2, 0, 0), rec(nam("."), 5, 0x41), rec(nam("."), 1, 1, 2, 3)}, api.ErrDName},
		{[][]byte{head(0, 2, 0, 0), rec(nam("."), 5, ptr(23)...), rec(hx("41"), 16)}, api.ErrPointer},
		{[][]byte{head(0, 1, 0, 0), rec(hx("41"), 1, 1, 2, 3)}, api.ErrDName},
		{[][]byte{head(0, 1, 0, 0), rec(ptr(12), 1, 1, 2, 3)}, api.ErrPointer},
		{[][]byte{head(0, 0, 1, 0), rec(hx("0041"), 5, 0x41)}, api.ErrDNS},               // a record whose fields lie elsewhere, and end
		{[][]byte{head(0, 1, 0, 0), hx("00 0005 0001 00000009 0003 41 00")}, api.ErrDNS}, // not all of the data is there
		{[][]byte{head(0, 1, 0, 0), hx("00 0005 0001 00000009 0003"), ptr(12)}, api.ErrDNS},
		{[][]byte{head(0, 1, 0, 0), hx("00 0001 0001 00000009 0005 01020304")}, api.ErrDNS},
		{[][]byte{head(1, 0, 0, 0), que(0), hx("41")}, api.ErrDNS}, // something is left
	} {
		refuses(t, join(x.parts...), x.err)
	}
}

// Every byte of a sound message is changed to every other.
func TestP24_1EveryByte(t *testing.T) {
	seen := map[api.Errno]int{}
	for at := range sound() {
		for v := range 256 {
			b := sound()
			b[at] = byte(v)
			_, err := parsed(t, b)
			seen[err]++
		}
	}
	for _, err := range []api.Errno{api.OK, api.ErrDNS, api.ErrDName, api.ErrPointer} {
		if seen[err] < 500 {
			t.Errorf("the test's own bytes are answered %v", seen)
		}
	}
}

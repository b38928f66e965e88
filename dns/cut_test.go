package dns

import (
	"bytes"
	"testing"

	"weft/api"
)

// counts are the three numbers of records in the head.
func countsOf(b []byte) [3]int {
	return [3]int{int(b[6])<<8 | int(b[7]), int(b[8])<<8 | int(b[9]), int(b[10])<<8 | int(b[11])}
}

// cutTo tells a failure, if a message is not written with so many bytes and records.
func cutTo(t *testing.T, m api.Message, size int, counts [3]int) []byte {
	t.Helper()
	b := mustBuild(t, m)
	left := counts != [3]int{len(m.Answers), len(m.Authority), len(m.Extra)}
	if len(b) != size || countsOf(b) != counts || (b[2]&2 > 0) != (m.TC || left) {
		t.Errorf("P24.2: %d bytes, %v records, the head %x; want %d bytes and %v", len(b), countsOf(b), b[:12], size, counts)
	}
	return b
}

// The last record has room to the byte or has not, whichever its list.
func TestP24_2Fits(t *testing.T) {
	for size := 485; size <= 520; size++ {
		for i, m := range lists(blank(size)) {
			counts, all := [3]int{}, 12
			if size <= 500 {
				counts[i], all = 1, 12+size
			}
			cutTo(t, m, all, counts)
			m.TC = true
			cutTo(t, m, all, counts)
		}
	}
	for _, typ := range []uint16{1, 5, 12, 16} {
		data := map[uint16][]byte{1: {1, 2, 3, 4}, 5: []byte("ab"), 12: []byte("ab"), 16: {1, 2, 3, 4}}[typ]
		last := api.Record{Name: ".", Type: typ, Data: data} // 15 bytes
		cutTo(t, api.Message{Answers: []api.Record{blank(485), last}}, 512, [3]int{2, 0, 0})
		cutTo(t, api.Message{Answers: []api.Record{blank(486), last}}, 498, [3]int{1, 0, 0})
	}
}

// All behind the first that does not fit is left out, also what would fit.
func TestP24_2AllBehind(t *testing.T) {
	small := []api.Record{blank(11), blank(11)}
	big := []api.Record{blank(11), blank(600), blank(11)}
	for _, x := range []struct {
		m      api.Message
		size   int
		counts [3]int
	}{
		{api.Message{Answers: big, Authority: small, Extra: small}, 23, [3]int{1, 0, 0}},
		{api.Message{Answers: small, Authority: big, Extra: small}, 45, [3]int{2, 1, 0}},
		{api.Message{Answers: small, Authority: small, Extra: big}, 67, [3]int{2, 2, 1}},
		{api.Message{Answers: big[1:], Authority: small, Extra: small}, 12, [3]int{0, 0, 0}},
		{api.Message{Authority: big[1:], Extra: small}, 12, [3]int{0, 0, 0}},
		{api.Message{Answers: small, Extra: big[1:]}, 34, [3]int{2, 0, 0}},
		{api.Message{Answers: []api.Record{blank(200), blank(300)}, Authority: []api.Record{blank(11)}, Extra: small}, 512, [3]int{2, 0, 0}},
		{api.Message{Answers: []api.Record{blank(200), blank(301)}, Authority: []api.Record{blank(11)}, Extra: small}, 212, [3]int{1, 0, 0}},
		{api.Message{Answers: small, Authority: small, Extra: small}, 78, [3]int{2, 2, 2}},
	} {
		b := cutTo(t, x.m, x.size, x.counts)
		if m := mustParse(t, b); len(m.Answers) != x.counts[0] || len(m.Authority) != x.counts[1] || len(m.Extra) != x.counts[2] {
			t.Errorf("P24.2: it is read as %+v", m)
		}
		x.m.Questions = asks("a.b")
		cutTo(t, x.m, mustSize(t, x.m), countsOf(mustBuild(t, x.m)))
	}
}

func mustSize(t *testing.T, m api.Message) int {
	t.Helper()
	return len(mustBuild(t, m))
}

// Whether a record fits hangs on what it shares, with its own name too.
func TestP24_2SharedFits(t *testing.T) {
	for _, x := range []struct {
		c    api.Record
		size int
	}{{raw("web.pods"), 12}, {raw("x.pods"), 14}, {cname("web.pods", "web.pods"), 14}, {cname("a.b", "a.b"), 17}, {cname("a.b", "c.a.b"), 19}, {raw("."), 11}} {
		for room := 9; room <= 21; room++ {
			m := api.Message{Questions: asks("web.pods"), Answers: []api.Record{blank(512 - 26 - room), x.c}}
			if room < x.size {
				cutTo(t, m, 512-room, [3]int{1, 0, 0})
			} else {
				cutTo(t, m, 512-room+x.size, [3]int{2, 0, 0})
			}
		}
	}
}

// What was left out lends no ending: the bytes are those of the message without it, but for TC.
func TestP24_2LendsNone(t *testing.T) {
	m := api.Message{Questions: asks("web.pods"), Answers: []api.Record{raw("a.pods"), cname("b.a.pods", "c.web.pods")}}
	without := mustBuild(t, m)
	for _, last := range []api.Record{raw("x.y", make([]byte, 480)...), raw("a.pods", make([]byte, 480)...)} {
		more := m
		more.Authority = []api.Record{last, raw("x.y"), raw("y")}
		more.Extra = []api.Record{cname("x.y", "x.y")}
		b := cutTo(t, more, len(without), [3]int{2, 0, 0})
		b[2] &^= 2
		if !bytes.Equal(b, without) {
			t.Errorf("P24.2: %x, want %x", b, without)
		}
	}
}

// Flags stay beside a TC that is set.
func TestP24_2CutFlags(t *testing.T) {
	m := api.Message{ID: 7, Reply: true, Opcode: 9, AA: true, RD: true, RA: true, Code: 6, Answers: []api.Record{blank(501)}}
	if b := mustBuild(t, m); !bytes.Equal(b, hx("0007 cf86 0000 0000 0000 0000")) {
		t.Errorf("P24.2: %x", b)
	}
}

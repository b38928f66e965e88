package dns

import (
	"bytes"
	"encoding/binary"
	"encoding/hex"
	"math"
	"math/rand"
	"slices"
	"strings"
	"testing"

	"weft/api"
)

const (
	most  = math.MaxInt
	least = math.MinInt
)

// dice rolls the same way in every run.
func dice() *rand.Rand {
	return rand.New(rand.NewSource(24))
}

func pick[E any](r *rand.Rand, list ...E) E {
	return list[r.Intn(len(list))]
}

func hx(s string) []byte {
	b, err := hex.DecodeString(strings.ReplaceAll(s, " ", ""))
	if err != nil {
		panic(err)
	}
	return b
}

func join(parts ...[]byte) []byte {
	return bytes.Join(parts, nil)
}

// two is a number of two bytes.
func two(n int) []byte {
	return binary.BigEndian.AppendUint16(nil, uint16(n))
}

// head is a head without flags.
func head(questions, answers, authority, extra int) []byte {
	return join(make([]byte, 4), two(questions), two(answers), two(authority), two(extra))
}

// lab is one label behind the other, without an end.
func lab(labels ...string) []byte {
	var b []byte
	for _, l := range labels {
		b = append(append(b, byte(len(l))), l...)
	}
	return b
}

// nam is a name's bytes.
func nam(text string) []byte {
	if text == "." {
		return []byte{0}
	}
	return append(lab(strings.Split(text, ".")...), 0)
}

// ptr is a pointer.
func ptr(place int) []byte {
	return two(3<<14 | place)
}

// que is a question's bytes, of type 1 and class 1.
func que(name ...byte) []byte {
	return join(name, hx("0001 0001"))
}

// rec is a record's bytes behind a name's, of class 1 and TTL 9.
func rec(name []byte, typ int, data ...byte) []byte {
	return join(name, two(typ), hx("0001 00000009"), two(len(data)), data)
}

// text is a name's text of which so many bytes are a name's: labels of 9 bytes, and one that is left.
func text(size int) string {
	n := (size - 2) / 10
	return strings.Repeat("abcdefghi.", n) + strings.Repeat("z", size-2-10*n)
}

func q(name string) api.Question {
	return api.Question{Name: name, Type: 1, Class: 1}
}

func asks(names ...string) []api.Question {
	var list []api.Question
	for _, n := range names {
		list = append(list, q(n))
	}
	return list
}

// raw is a record of a type that has any data.
func raw(name string, data ...byte) api.Record {
	return api.Record{Name: name, Type: 16, Class: 1, TTL: 9, Data: data}
}

// blank is a record of so many bytes, 11 at least.
func blank(size int) api.Record {
	return raw(".", bytes.Repeat([]byte{0xee}, size-11)...)
}

func a(name string, data ...byte) api.Record {
	return api.Record{Name: name, Type: 1, Class: 1, TTL: 9, Data: data}
}

func cname(name, target string) api.Record {
	return api.Record{Name: name, Type: 5, Class: 1, TTL: 9, Data: []byte(target)}
}

func pointer(name, target string) api.Record {
	return api.Record{Name: name, Type: 12, Class: 1, TTL: 9, Data: []byte(target)}
}

// same tells whether two messages are the same; a nil list is an empty one.
func same(m, n api.Message) bool {
	if m.ID != n.ID || m.Reply != n.Reply || m.Opcode != n.Opcode || m.AA != n.AA || m.TC != n.TC || m.RD != n.RD || m.RA != n.RA || m.Code != n.Code {
		return false
	}
	return slices.Equal(m.Questions, n.Questions) && sameRecords(m.Answers, n.Answers) && sameRecords(m.Authority, n.Authority) && sameRecords(m.Extra, n.Extra)
}

func sameRecords(list, other []api.Record) bool {
	return slices.EqualFunc(list, other, func(c, d api.Record) bool {
		return c.Name == d.Name && c.Type == d.Type && c.Class == d.Class && c.TTL == d.TTL && bytes.Equal(c.Data, d.Data)
	})
}

// isZero tells whether nothing at all is in a message, empty lists neither.
func isZero(m api.Message) bool {
	return same(m, api.Message{}) && m.Questions == nil && m.Answers == nil && m.Authority == nil && m.Extra == nil
}

// parsed asks Parse and the model, which must answer the same.
func parsed(t *testing.T, b []byte) (api.Message, api.Errno) {
	t.Helper()
	m, err := Parse(b)
	want, wantErr := modelParse(b)
	if err != wantErr || !same(m, want) {
		t.Fatalf("P24.1: Parse(%.1100x) = %+v, %d, want %+v, %d", b, m, err, want, wantErr)
	}
	return m, err
}

// mustParse is a message out of bytes that must be one.
func mustParse(t *testing.T, b []byte) api.Message {
	t.Helper()
	m, err := parsed(t, b)
	if err != api.OK {
		t.Fatalf("P24.1: Parse(%.1100x) = %d", b, err)
	}
	return m
}

// refuses tells a failure, if bytes are not refused with just that error and nothing beside.
func refuses(t *testing.T, b []byte, err api.Errno) {
	t.Helper()
	if m, got := parsed(t, b); got != err || !isZero(m) {
		t.Errorf("P24.1: Parse(%.1100x) = %+v, %d, want %d", b, m, got, err)
	}
}

// built asks Build and the model, which must answer the same.
func built(t *testing.T, m api.Message) ([]byte, api.Errno) {
	t.Helper()
	b, err := Build(m)
	want, wantErr := modelBuild(m)
	if err != wantErr || !bytes.Equal(b, want) {
		t.Fatalf("P24.2: Build(%.2000s) = %x, %d, want %x, %d", show(m), b, err, want, wantErr)
	}
	return b, err
}

// mustBuild is the bytes of a message that must be written.
func mustBuild(t *testing.T, m api.Message) []byte {
	t.Helper()
	b, err := built(t, m)
	if err != api.OK {
		t.Fatalf("P24.2: Build(%.2000s) = %d", show(m), err)
	}
	return b
}

// cannot tells a failure, if a message is not refused with just that error and nothing beside.
func cannot(t *testing.T, m api.Message, err api.Errno) {
	t.Helper()
	if b, got := built(t, m); got != err || b != nil {
		t.Errorf("P24.2: Build(%.2000s) = %x, %d, want %d", show(m), b, got, err)
	}
}

// answered asks Answer and the model, which must answer the same.
func answered(t *testing.T, m api.Message, zone []api.Record) (api.Message, api.Errno) {
	t.Helper()
	reply, err := Answer(m, zone)
	want, wantErr := modelAnswer(m, zone)
	if err != wantErr || !same(reply, want) {
		t.Fatalf("P24.5: Answer(%.2000s, %+v) = %+v, %d, want %+v, %d", show(m), zone, reply, err, want, wantErr)
	}
	return reply, err
}

// replies tells a failure, if a question is not answered with that code and those records.
func replies(t *testing.T, question api.Question, zone []api.Record, code int, answers ...api.Record) {
	t.Helper()
	reply, err := answered(t, api.Message{Questions: []api.Question{question}}, zone)
	if err != api.OK || !reply.AA || reply.Code != code || !sameRecords(reply.Answers, answers) {
		t.Errorf("P24.5: %+v is answered %+v, %d, want code %d and %+v", question, reply, err, code, answers)
	}
}

// counted is n bytes, none of them 0.
func counted(n int) []byte {
	b := make([]byte, n)
	for i := range b {
		b[i] = byte(i%255 + 1)
	}
	return b
}

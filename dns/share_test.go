package dns

import (
	"bytes"
	"strings"
	"testing"

	"weft/api"
)

// writes tells a failure, if a message is not written as these parts behind the head.
func writes(t *testing.T, m api.Message, parts ...[]byte) {
	t.Helper()
	want := join(head(len(m.Questions), len(m.Answers), len(m.Authority), len(m.Extra)), join(parts...))
	if b := mustBuild(t, m); !bytes.Equal(b, want) {
		t.Errorf("P24.2: %s is\n%x, want\n%x", show(m), b, want)
	}
}

// Endings shared among questions: the whole name, some of its labels, the last one.
func TestP24_2SharedInQuestions(t *testing.T) {
	first := que(nam("web.a.pods")...) // at 12: "a.pods" at 16, "pods" at 18
	for _, x := range []struct {
		name string
		b    []byte
	}{
		{"web.a.pods", ptr(12)},
		{"a.pods", ptr(16)},
		{"pods", ptr(18)},
		{"x.web.a.pods", join(lab("x"), ptr(12))},
		{"x.a.pods", join(lab("x"), ptr(16))},
		{"web.pods", join(lab("web"), ptr(18))},
		{"a.web.pods", join(lab("a", "web"), ptr(18))},
		{"b.c.d.pods", join(lab("b", "c", "d"), ptr(18))},
		{".", nam(".")},
		{"web", nam("web")}, // a label, but no ending
		{"web.a", nam("web.a")},
		{"ods", nam("ods")},
		{"b.pod", nam("b.pod")},
		{"Web.a.pods", join(lab("Web"), ptr(16))},
		{"web.A.pods", join(lab("web", "A"), ptr(18))},
		{"web.a.podS", nam("web.a.podS")},
		{"WEB.A.PODS", nam("WEB.A.PODS")},
		{"xweb.a.pods", join(lab("xweb"), ptr(16))},
		{"web-a.pods", join(lab("web-a"), ptr(18))},
		{"a-pods", nam("a-pods")},
		{"pods.pods", join(lab("pods"), ptr(18))},
		{"a.pods.pods", join(lab("a", "pods"), ptr(18))},
	} {
		writes(t, api.Message{Questions: asks("web.a.pods", x.name)}, first, que(x.b...))
	}
}

// The same ahead of records and in data.
func TestP24_2SharedInRecords(t *testing.T) {
	front := que(nam("web.pods")...) // at 12: "pods" at 16; the first record at 26, and its data at 38 behind a pointer, at 37 behind the root
	for _, list := range [][]api.Record{{a("web.pods", 1, 2, 3, 4)}, {raw("web.pods", 1, 2, 3, 4)}} {
		for _, m := range lists(list...) {
			m.Questions = asks("web.pods")
			writes(t, m, front, rec(ptr(12), int(list[0].Type), 1, 2, 3, 4))
		}
	}
	for _, typ := range []uint16{5, 12} {
		to := func(name, target string) api.Record {
			return api.Record{Name: name, Type: typ, Class: 1, TTL: 9, Data: []byte(target)}
		}
		for _, x := range []struct {
			c api.Record
			b []byte
		}{
			{to("web.pods", "a.pods"), rec(ptr(12), int(typ), join(lab("a"), ptr(16))...)},
			{to("a.pods", "web.pods"), rec(join(lab("a"), ptr(16)), int(typ), ptr(12)...)},
			{to("a.pods", "a.pods"), rec(join(lab("a"), ptr(16)), int(typ), ptr(26)...)},
			{to("a.b", "c.b"), rec(nam("a.b"), int(typ), join(lab("c"), ptr(28))...)},
			{to("a.b", "c.d"), rec(nam("a.b"), int(typ), nam("c.d")...)},
			{to(".", "."), rec(nam("."), int(typ), 0)},
			{to("pods", "."), rec(ptr(16), int(typ), 0)},
			{to(".", "x.y"), rec(nam("."), int(typ), nam("x.y")...)},
			{to("WEB.pods", "web.PODS"), rec(join(lab("WEB"), ptr(16)), int(typ), nam("web.PODS")...)},
		} {
			writes(t, api.Message{Questions: asks("web.pods"), Authority: []api.Record{x.c}}, front, x.b)
		}
		// what was written in data lends its endings too, and so does a name that ends in a pointer
		m := api.Message{Questions: asks("web.pods"), Answers: []api.Record{to(".", "a.b.pods")}, Extra: []api.Record{raw("a.b.pods"), raw("b.pods"), to("x.a.b.pods", "y.b.pods")}}
		writes(t, m, front, rec(nam("."), int(typ), join(lab("a", "b"), ptr(16))...), rec(ptr(37), 16), rec(ptr(39), 16),
			rec(join(lab("x"), ptr(37)), int(typ), join(lab("y"), ptr(39))...))
	}
}

// Of several places the lowest is told: a name that is only a pointer stands where that leads.
func TestP24_2LowestPlace(t *testing.T) {
	m := api.Message{Questions: asks("a.b", "a.b", "a.b", "c.a.b", "a.b", "c.a.b", "b")}
	writes(t, m, que(nam("a.b")...), que(ptr(12)...), que(ptr(12)...), que(join(lab("c"), ptr(12))...), que(ptr(12)...), que(ptr(33)...), que(ptr(14)...))
	m = api.Message{Questions: asks("a.a.a", "a.a", "a", "a.a.a.a", "b.a.a")}
	writes(t, m, que(nam("a.a.a")...), que(ptr(14)...), que(ptr(16)...), que(join(lab("a"), ptr(12))...), que(join(lab("b"), ptr(14))...))
	m = api.Message{Questions: asks("a", "a.a"), Answers: []api.Record{cname("a.a", "a.a.a")}}
	writes(t, m, que(nam("a")...), que(join(lab("a"), ptr(12))...), rec(ptr(19), 5, join(lab("a"), ptr(19))...))
}

// Bytes that look like an ending, but are none of a name that was written.
func TestP24_2NotShared(t *testing.T) {
	bytesOf := nam("a.b")
	writes(t, api.Message{Answers: []api.Record{raw(".", bytesOf...), raw("a.b"), raw("b")}}, rec(nam("."), 16, bytesOf...), rec(nam("a.b"), 16), rec(ptr(30), 16))
	other := raw(".", bytesOf...) // a type of the numbers beside those whose data is a name
	for _, typ := range []uint16{4, 6, 11, 13, 256 + 5} {
		other.Type = typ
		writes(t, api.Message{Answers: []api.Record{other, raw("a.b")}}, rec(nam("."), int(typ), bytesOf...), rec(nam("a.b"), 16))
	}
	address := a("x", 1, 'b', 0, 0)
	writes(t, api.Message{Answers: []api.Record{address, raw("b")}}, rec(nam("x"), 1, 1, 'b', 0, 0), rec(nam("b"), 16))
	label := strings.Repeat("0", 48) // the middle of it is a label of 48 bytes
	writes(t, api.Message{Questions: asks("0"+label, label)}, que(nam("0"+label)...), que(nam(label)...))
	writes(t, api.Message{Questions: asks(".", ".", "a", ".")}, que(0), que(0), que(nam("a")...), que(0))
	// an ending of one's own name is written out
	writes(t, api.Message{Questions: asks("a.b.a.b")}, que(nam("a.b.a.b")...))
	writes(t, api.Message{Questions: asks("a.b.a.b", "a.b")}, que(nam("a.b.a.b")...), que(ptr(16)...))
}

// Two messages share nothing.
func TestP24_2SharedInOneMessage(t *testing.T) {
	for range 3 {
		writes(t, api.Message{Questions: asks("web.pods")}, que(nam("web.pods")...))
		writes(t, api.Message{Questions: asks("x", "pods")}, que(nam("x")...), que(nam("pods")...))
	}
}

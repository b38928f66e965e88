package dns

import (
	"bytes"
	"testing"

	"weft/api"
)

// The chapter's examples, one by one.

const exampleQuestion = "03 77 65 62 04 70 6f 64 73 00 00 01 00 01"

func TestP24_2ExampleQuestion(t *testing.T) {
	b, err := Build(api.Message{ID: 7, RD: true, Questions: asks("web.pods")})
	if err != api.OK || !bytes.Equal(b, hx("00 07 01 00 00 01 00 00 00 00 00 00"+exampleQuestion)) {
		t.Errorf("P24.2: %x, %d", b, err)
	}
}

func TestP24_2ExampleAnswers(t *testing.T) {
	m := api.Message{ID: 7, Reply: true, AA: true, Questions: asks("web.pods"), Answers: []api.Record{
		{Name: "web.pods", Type: api.TypeCNAME, Class: api.ClassIN, TTL: 9, Data: []byte("a.pods")},
		{Name: "a.pods", Type: api.TypeA, Class: api.ClassIN, TTL: 9, Data: []byte{10, 5, 2, 2}}}}
	want := hx("00 07 84 00 00 01 00 02 00 00 00 00" + exampleQuestion +
		"c0 0c 00 05 00 01 00 00 00 09 00 04 01 61 c0 10" + "c0 26 00 01 00 01 00 00 00 09 00 04 0a 05 02 02")
	b, err := Build(m)
	if err != api.OK || !bytes.Equal(b, want) {
		t.Errorf("P24.2: %x, %d", b, err)
	}
	if got, err := Parse(b); err != api.OK || !same(got, m) {
		t.Errorf("P24.3: %+v, %d", got, err)
	}
}

func TestP24_1ExampleParse(t *testing.T) {
	if m := mustParse(t, make([]byte, 12)); !isZero(m) {
		t.Errorf("P24.1: %+v", m)
	}
	refuses(t, make([]byte, 11), api.ErrDNS)
	refuses(t, make([]byte, 13), api.ErrDNS)
	refuses(t, join(head(1, 0, 0, 0), hx("c00c 0001 0001")), api.ErrPointer)
	refuses(t, join(head(1, 0, 0, 0), hx("41 61 00 0001 0001")), api.ErrDName)
}

func TestP24_4ExampleNames(t *testing.T) {
	equals(t, "Web.Pods", "wEB.pODS", true)
	equals(t, "a", "a.", false)
	equals(t, ".", ".", true)
	equals(t, "", "", false)
	if got := Reverse(10<<24 | 5<<16 | 2<<8 | 2); got != "2.2.5.10.in-addr.arpa" {
		t.Errorf("P24.4: %q", got)
	}
}

func TestP24_2ExampleRefused(t *testing.T) {
	cannot(t, api.Message{Opcode: 16}, api.ErrArg)
	cannot(t, api.Message{Questions: asks("a..b")}, api.ErrDName)
}

func TestP24_5ExampleAnswers(t *testing.T) {
	z := []api.Record{cname("WEB.pods", "a.pods"), a("a.pods", 10, 5, 2, 2), a("a.pods", 10, 5, 2, 3)}
	reply, err := answered(t, api.Message{ID: 7, RD: true, Questions: asks("web.pods")}, z)
	want := api.Message{ID: 7, Reply: true, AA: true, RD: true, Questions: asks("web.pods"), Answers: z}
	if err != api.OK || !same(reply, want) {
		t.Errorf("P24.5: %+v, %d", reply, err)
	}
	replies(t, q("x.pods"), z, api.CodeName)
	replies(t, api.Question{Name: "a.pods", Type: api.TypePTR, Class: api.ClassIN}, z, api.CodeOK)
	not(t, api.Message{Questions: asks("a.pods", "a.pods")}, api.CodeForm)
	not(t, api.Message{Opcode: 2, Questions: asks("a.pods")}, api.CodeNot)
	not(t, api.Message{Questions: []api.Question{{Name: "a.pods", Type: 1, Class: 3}}}, api.CodeRefus)
	if reply, err := answered(t, api.Message{Reply: true}, z); err != api.ErrDNS || !isZero(reply) {
		t.Errorf("P24.5: %+v, %d", reply, err)
	}
	round := cname("a", "a")
	replies(t, q("a"), []api.Record{round}, api.CodeOK, round, round, round, round, round, round, round, round)
}

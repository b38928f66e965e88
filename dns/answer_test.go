package dns

import (
	"strconv"
	"strings"
	"testing"

	"weft/api"
)

// zone has an alias, addresses, and a name that only other records have.
func zone() []api.Record {
	return []api.Record{
		cname("WEB.pods", "a.Pods"),
		a("b.pods", 10, 5, 2, 9),
		{Name: "a.pods", Type: 1, Class: 1, TTL: 77, Data: []byte{10, 5, 2, 2}},
		raw("a.pods", 1),
		a("A.PODS", 10, 5, 2, 3),
		pointer("2.2.5.10.in-addr.arpa", "a.pods"),
		raw("odd", 2),
		{Name: "odd", Type: 16, Class: 1, TTL: 1 << 31, Data: nil},
		a("a.pods", 10, 5, 2, 2),
	}
}

func TestP24_5Reply(t *testing.T) {
	for _, m := range []api.Message{{Reply: true}, {Reply: true, ID: 9, Opcode: 3, Questions: asks("a.pods")}, {Reply: true, Questions: asks("a.pods")}, {Reply: true, Questions: asks("a..b")}} {
		if reply, err := answered(t, m, zone()); err != api.ErrDNS || !isZero(reply) {
			t.Errorf("P24.5: a reply is answered %+v, %d", reply, err)
		}
	}
}

// What an answer has of its question, and what it has not.
func TestP24_5Taken(t *testing.T) {
	for i := range 64 {
		m := api.Message{ID: uint16(i * 1000), RD: i&1 > 0, TC: i&2 > 0, RA: i&4 > 0, AA: i&8 > 0, Opcode: i >> 4 & 1, Questions: asks("a.pods", "b")[:1+i>>5]}
		m.Code, m.Answers, m.Authority, m.Extra = i%16, zone(), zone(), zone()
		reply, err := answered(t, m, zone())
		if err != api.OK || !reply.Reply || reply.ID != m.ID || reply.Opcode != m.Opcode || reply.RD != m.RD || reply.TC || reply.RA || len(reply.Authority)+len(reply.Extra) != 0 {
			t.Errorf("P24.5: %+v, %d", reply, err)
		}
		if len(reply.Questions) != 1+i>>5 || reply.Questions[0] != q("a.pods") || reply.AA != (i&48 == 0) {
			t.Errorf("P24.5: %+v", reply)
		}
	}
}

// not tells a failure, if a message is not answered with that code, without answers and without AA.
func not(t *testing.T, m api.Message, code int) {
	t.Helper()
	if reply, err := answered(t, m, zone()); err != api.OK || reply.Code != code || reply.AA || !reply.Reply || len(reply.Answers) != 0 || len(reply.Questions) != len(m.Questions) {
		t.Errorf("P24.5: %+v is answered %+v, %d, want code %d", m, reply, err, code)
	}
}

func TestP24_5Opcodes(t *testing.T) {
	for _, op := range []int{1, 2, 3, 14, 15, 16, -1, least, most} {
		not(t, api.Message{Opcode: op, Questions: asks("a.pods")}, api.CodeNot)
		not(t, api.Message{Opcode: op}, api.CodeNot)
		not(t, api.Message{Opcode: op, Questions: []api.Question{{Name: "a..b", Class: 3}}}, api.CodeNot)
	}
}

func TestP24_5Questions(t *testing.T) {
	not(t, api.Message{}, api.CodeForm)
	not(t, api.Message{Questions: []api.Question{}}, api.CodeForm)
	not(t, api.Message{Questions: asks("a.pods", "a.pods")}, api.CodeForm)
	not(t, api.Message{Questions: []api.Question{{Name: "a.pods", Type: 1, Class: 3}, q("a.pods")}}, api.CodeForm)
	not(t, api.Message{Questions: make([]api.Question, 70000)}, api.CodeForm)
	for _, n := range notNames() {
		not(t, api.Message{Questions: asks(n)}, api.CodeForm)
		not(t, api.Message{Questions: []api.Question{{Name: n, Type: 1, Class: 3}}}, api.CodeForm)
	}
	for _, class := range []uint16{0, 2, 3, 4, 254, 255, 256, 257, 65535} {
		not(t, api.Message{Questions: []api.Question{{Name: "a.pods", Type: 1, Class: class}}}, api.CodeRefus)
		not(t, api.Message{Questions: []api.Question{{Name: "none", Type: 1, Class: class}}}, api.CodeRefus)
	}
}

// Records of the type that is asked for: all of them, in the zone's order, as they are there.
func TestP24_5Found(t *testing.T) {
	z := zone()
	for _, n := range []string{"a.pods", "A.pods", "a.PODS", "A.PODS"} {
		replies(t, q(n), z, api.CodeOK, z[2], z[4], z[8])
	}
	for _, n := range []string{"web.pods", "WEB.pods", "wEb.PoDs"} {
		replies(t, q(n), z, api.CodeOK, z[0], z[2], z[4], z[8])
		replies(t, api.Question{Name: n, Type: 5, Class: 1}, z, api.CodeOK, z[0])
		replies(t, api.Question{Name: n, Type: 16, Class: 1}, z, api.CodeOK, z[0], z[3])
		replies(t, api.Question{Name: n, Type: 28, Class: 1}, z, api.CodeOK, z[0])
	}
	replies(t, api.Question{Name: "odd", Type: 16, Class: 1}, z, api.CodeOK, z[6], z[7])
	replies(t, api.Question{Name: "2.2.5.10.in-addr.arpa", Type: 12, Class: 1}, z, api.CodeOK, z[5]) // a PTR isn't followed
	replies(t, api.Question{Name: "2.2.5.10.in-addr.arpa", Type: 1, Class: 1}, z, api.CodeOK)
}

// A name that is there without the type, and one that is not there.
func TestP24_5NotFound(t *testing.T) {
	z := zone()
	for typ := range 300 {
		if typ != 1 && typ != 16 {
			replies(t, api.Question{Name: "a.pods", Type: uint16(typ), Class: 1}, z, api.CodeOK)
		}
		for _, n := range []string{"x.pods", "pods", ".", "a", "a.pods.x", "x.a.pods", "in-addr.arpa"} {
			replies(t, api.Question{Name: n, Type: uint16(typ), Class: 1}, z, api.CodeName)
			replies(t, api.Question{Name: n, Type: uint16(typ), Class: 1}, nil, api.CodeName)
		}
	}
	replies(t, q("."), []api.Record{a(".", 1, 2, 3, 4)}, api.CodeOK, a(".", 1, 2, 3, 4))
	long := text(255)
	replies(t, q(long), []api.Record{a(strings.ToUpper(long), 1, 2, 3, 4)}, api.CodeOK, a(strings.ToUpper(long), 1, 2, 3, 4))
}

// Records that do not count: they are no answers, are not followed, and do not make a name be there.
func TestP24_5Counts(t *testing.T) {
	bad := []api.Record{{Name: "n", Type: 1, Class: 1, Data: counted(3)}, {Name: "n", Type: 1, Class: 1, Data: counted(5)}, {Name: "n", Type: 1, Class: 1}, {Name: "n", Type: 1, Class: 3, Data: counted(4)}, {Name: "n", Type: 1, Class: 0, Data: counted(4)},
		{Name: "n", Type: 5, Class: 1}, {Name: "n", Type: 5, Class: 1, Data: []byte("a..b")}, {Name: "n", Type: 5, Class: 1, Data: []byte("a.")}, {Name: "n", Type: 5, Class: 1, Data: nam("a")}, {Name: "n", Type: 5, Class: 2, Data: []byte("good")},
		{Name: "n", Type: 12, Class: 1, Data: []byte("a b")}, {Name: "n", Type: 12, Class: 1}, {Name: "n", Type: 12, Class: 255, Data: []byte("good")}, {Name: "n", Type: 16, Class: 257}, {Name: "n", Type: 16, Class: 0}}
	good := []api.Record{a("n", 1, 2, 3, 4), cname("n", "good"), pointer("n", "good"), raw("n")}
	behind := a("good", 9, 9, 9, 9)
	for _, typ := range []uint16{1, 5, 12, 16, 28} {
		question := api.Question{Name: "n", Type: typ, Class: 1}
		replies(t, question, append(bad, behind), api.CodeName)
		for _, b := range bad {
			replies(t, question, []api.Record{b, behind}, api.CodeName)
			for _, g := range good {
				for _, z := range [][]api.Record{{b, g, behind}, {g, b, behind}, {behind, b, g}} {
					switch {
					case g.Type == typ:
						replies(t, question, z, api.CodeOK, g)
					case g.Type == 5 && typ == 1:
						replies(t, question, z, api.CodeOK, g, behind)
					case g.Type == 5:
						replies(t, question, z, api.CodeOK, g)
					default:
						replies(t, question, z, api.CodeOK)
					}
				}
			}
		}
	}
	// records whose names are none, under such names that Equal would not take either
	for _, n := range notNames() {
		replies(t, q("n"), []api.Record{a(n, 1, 2, 3, 4), cname("n", n)}, api.CodeName)
		answered(t, api.Message{Questions: asks(strings.ToLower(n))}, []api.Record{a(n, 1, 2, 3, 4)})
	}
	replies(t, q("k"), []api.Record{a("\u212a", 1, 2, 3, 4)}, api.CodeName)
}

// aliases is a zone in which so many CNAMEs lead from c0 on.
func aliases(n int) []api.Record {
	var z []api.Record
	for i := range n {
		z = append(z, cname("c"+strconv.Itoa(i), "C"+strconv.Itoa(i+1)))
	}
	return z
}

func TestP24_5Chains(t *testing.T) {
	for n := range 12 {
		z := aliases(n)
		end := "c" + strconv.Itoa(n)
		followed := z[:min(n, 8)]
		code := map[bool]int{true: api.CodeName, false: api.CodeOK}[n <= 8]
		replies(t, q("c0"), z, code, followed...)
		for _, last := range []api.Record{a(end, 1, 2, 3, 4), a(strings.ToUpper(end), 4, 3, 2, 1)} {
			if n <= 8 {
				replies(t, q("c0"), append(z, last), api.CodeOK, append(followed, last)...)
				replies(t, q("c0"), append([]api.Record{last}, z...), api.CodeOK, append(followed[:len(followed):len(followed)], last)...)
			} else {
				replies(t, q("c0"), append(z, last), api.CodeOK, followed...)
			}
		}
		replies(t, q("c0"), append(z, raw(end)), api.CodeOK, followed...)
		if n > 0 {
			replies(t, api.Question{Name: "c0", Type: 5, Class: 1}, z, api.CodeOK, z[0])
		}
	}
	// eight have been followed, and two records of the type wait there
	z := append(aliases(8), a("c8", 1, 1, 1, 1), cname("c8", "c9"), a("c8", 2, 2, 2, 2))
	replies(t, q("c0"), z, api.CodeOK, append(aliases(8), z[8], z[10])...)
}

func TestP24_5RoundAndRound(t *testing.T) {
	one := []api.Record{cname("a", "A")}
	replies(t, q("a"), one, api.CodeOK, one[0], one[0], one[0], one[0], one[0], one[0], one[0], one[0])
	two := []api.Record{cname("a", "b"), cname("b", "a")}
	replies(t, q("b"), two, api.CodeOK, two[1], two[0], two[1], two[0], two[1], two[0], two[1], two[0])
	into := []api.Record{cname("x", "a"), cname("a", "b"), cname("b", "a")}
	replies(t, q("x"), into, api.CodeOK, into[0], into[1], into[2], into[1], into[2], into[1], into[2], into[1])
}

// Of several CNAMEs the first that counts is followed, and it alone; but all are answers where they are asked for.
func TestP24_5FirstAlias(t *testing.T) {
	z := []api.Record{cname("b", "none"), {Name: "n", Type: 5, Class: 3, Data: []byte("c")}, cname("n", "c."), cname("N", "b"), cname("n", "c"), a("c", 1, 2, 3, 4), a("d", 4, 3, 2, 1)}
	replies(t, q("n"), z, api.CodeName, z[3], z[0])
	replies(t, api.Question{Name: "n", Type: 5, Class: 1}, z, api.CodeOK, z[3], z[4])
	z[0] = cname("b", "D")
	replies(t, q("n"), z, api.CodeOK, z[3], z[0], z[6])
	z = append(z, a("n", 7, 7, 7, 7)) // a record of the type is ahead of any CNAME
	replies(t, q("n"), z, api.CodeOK, z[7])
	replies(t, api.Question{Name: "n", Type: 12, Class: 1}, z, api.CodeOK, z[3], z[0])
}

// Zones by dice, and questions for what they have and have not.
func TestP24_5ByDice(t *testing.T) {
	r := dice()
	some := []string{"a", "b", "c", "d", "e", "f", "g", "h", "A", "B", "C", "D"}
	lengths := map[int]int{}
	for range 20000 {
		var z []api.Record
		for range r.Intn(24) {
			c := cname(pick(r, some...), pick(r, some...))
			if r.Intn(3) == 0 {
				c = smallRecord(r)
				c.Name = pick(r, "a", "b", "A", "c", "d", "a.b", "a..b")
			}
			if r.Intn(12) == 0 {
				c.Data = pick(r, counted(3), counted(4), []byte("a."))
			}
			z = append(z, c)
		}
		m := api.Message{Questions: []api.Question{{Name: pick(r, some...), Type: pick[uint16](r, 1, 1, 5, 12, 16, 99), Class: 1}}}
		reply, _ := answered(t, m, z)
		lengths[len(reply.Answers)]++
	}
	for _, n := range []int{0, 1, 2, 3, 4, 5, 6, 8} {
		if lengths[n] < 20 {
			t.Errorf("the test's own zones: %v", lengths)
		}
	}
}

package dns

import (
	"bytes"
	"slices"
	"testing"

	"weft/api"
)

// P24.6 and P0.3: what is handed in is neither changed nor kept, what is answered is the caller's own.

// roomyBytes are the bytes with spare room behind them, and all of that memory.
func roomyBytes(b []byte) ([]byte, []byte) {
	block := append(bytes.Clone(b), bytes.Repeat([]byte{0xa5}, 64)...)
	return block[:len(b)], block
}

// spare is what stands in the spare room of lists that are handed in.
func spare() api.Record {
	return cname("spare", "room")
}

// roomyRecords are the records, as a list and each one's data with spare room.
func roomyRecords(list []api.Record) []api.Record {
	var all []api.Record
	for _, c := range list {
		c.Data, _ = roomyBytes(c.Data)
		all = append(all, c)
	}
	return append(all, spare(), spare(), spare())[:len(list)]
}

func roomyQuestions(list []api.Question) []api.Question {
	return append(slices.Clone(list), q("spare"), q("room"))[:len(list)]
}

func roomy(m api.Message) api.Message {
	m.Questions = roomyQuestions(m.Questions)
	m.Answers, m.Authority, m.Extra = roomyRecords(m.Answers), roomyRecords(m.Authority), roomyRecords(m.Extra)
	return m
}

// isRoomy tells whether all spare room is as roomy laid it.
func isRoomy(m api.Message) bool {
	n := len(m.Questions)
	ok := slices.Equal(m.Questions[n:n+2], asks("spare", "room"))
	for _, list := range [][]api.Record{m.Answers, m.Authority, m.Extra} {
		ok = ok && areRoomy(list)
	}
	return ok
}

func areRoomy(list []api.Record) bool {
	n := len(list)
	ok := sameRecords(list[n:n+3], []api.Record{spare(), spare(), spare()})
	for _, c := range list {
		size := len(c.Data)
		ok = ok && bytes.Equal(c.Data[size:size+64], bytes.Repeat([]byte{0xa5}, 64))
	}
	return ok
}

func scribbleBytes(b []byte) {
	whole := b[:cap(b)]
	for i := range whole {
		whole[i] = 0x5a
	}
	_ = append(b, 0x5b)
}

// scribbleRecords writes over the data of records, and then over the records.
func scribbleRecords(list []api.Record) {
	for _, c := range list {
		scribbleBytes(c.Data)
	}
	whole := list[:cap(list)]
	for i := range whole {
		whole[i] = raw("over", 9)
	}
	_ = append(list, raw("more"))
}

func scribbleQuestions(list []api.Question) {
	whole := list[:cap(list)]
	for i := range whole {
		whole[i] = q("over")
	}
	_ = append(list, q("more"))
}

func scribble(m api.Message) {
	scribbleQuestions(m.Questions)
	scribbleRecords(m.Answers)
	scribbleRecords(m.Authority)
	scribbleRecords(m.Extra)
}

func TestP24_6Parse(t *testing.T) {
	for _, b := range [][]byte{sound(), chain(64, "a", "b"), make([]byte, 12), join(sound(), []byte{0})} {
		want, wantErr := Parse(bytes.Clone(b))
		in, block := roomyBytes(b)
		was := bytes.Clone(block)
		m, err := Parse(in)
		if !bytes.Equal(block, was) {
			t.Error("P24.6: Parse changes what is handed in")
		}
		scribbleBytes(block)
		if err != wantErr || !same(m, want) {
			t.Error("P24.6: Parse keeps what is handed in")
		}
		in, block = roomyBytes(b)
		m, _ = Parse(in)
		other, _ := Parse(in)
		scribble(m)
		if !bytes.Equal(block, was) {
			t.Error("P24.6: who writes into a message changes the bytes out of which it was read")
		}
		if !same(other, want) {
			t.Error("P24.6: two messages share memory")
		}
	}
}

// apart holds that no two lists of a message share memory: each is written over in turn, and the others stay.
func apart(t *testing.T, answer func() api.Message) {
	t.Helper()
	want := answer()
	count := 0
	each := func(m api.Message, over func(at int) bool) {
		at := 0
		for _, list := range [][]api.Record{m.Answers, m.Authority, m.Extra} {
			for _, c := range list {
				if over(at) {
					scribbleBytes(c.Data)
				}
				at++
			}
		}
		count = at
	}
	each(want, func(int) bool { return false })
	for n := range count {
		m := answer()
		each(m, func(at int) bool { return at == n })
		at := 0
		for i, list := range [][]api.Record{m.Answers, m.Authority, m.Extra} {
			for k, c := range list {
				if is := [][]api.Record{want.Answers, want.Authority, want.Extra}[i][k]; at != n && !bytes.Equal(c.Data, is.Data) {
					t.Fatalf("P24.6: the data of two records share memory: %+v, want %+v", c, is)
				}
				at++
			}
		}
	}
	for n := range 4 {
		m := answer()
		switch n {
		case 0:
			scribbleQuestions(m.Questions)
			m.Questions = want.Questions
		case 1:
			scribbleRecords(m.Answers)
			m.Answers = want.Answers
		case 2:
			scribbleRecords(m.Authority)
			m.Authority = want.Authority
		case 3:
			scribbleRecords(m.Extra)
			m.Extra = want.Extra
		}
		if !same(m, want) {
			t.Fatalf("P24.6: two lists share memory: %+v, want %+v", m, want)
		}
	}
}

func TestP24_6ListsAreApart(t *testing.T) {
	b := sound()
	apart(t, func() api.Message {
		m, _ := Parse(b)
		return m
	})
	for _, x := range []struct {
		zone []api.Record
		name string
	}{{zone(), "web.pods"}, {[]api.Record{cname("a", "A")}, "a"}, {zone(), "none"}} {
		apart(t, func() api.Message {
			m, _ := Answer(api.Message{Questions: asks(x.name)}, x.zone)
			return m
		})
	}
}

func TestP24_6Build(t *testing.T) {
	r := dice()
	for i := range 300 {
		m := smallMessage(r)
		switch i % 6 {
		case 1:
			m.Extra = append(m.Extra, blank(600), blank(30))
		case 2:
			m.Answers = append(m.Answers, raw("a..b"))
		case 3:
			m.Opcode = 16
		}
		want, wantErr := Build(roomy(m))
		in := roomy(m)
		b, err := Build(in)
		if !same(in, m) || !isRoomy(in) {
			t.Fatal("P24.6: Build changes what is handed in")
		}
		other, _ := Build(in)
		scribble(in)
		if err != wantErr || !bytes.Equal(b, want) {
			t.Fatal("P24.6: Build keeps what is handed in")
		}
		scribbleBytes(b)
		if !bytes.Equal(other, want) {
			t.Fatal("P24.6: two answers of Build share memory")
		}
		in = roomy(m)
		b, _ = Build(in)
		scribbleBytes(b)
		if !same(in, m) || !isRoomy(in) {
			t.Fatal("P24.6: who writes into what Build answers changes what was handed in")
		}
	}
}

func TestP24_6Answer(t *testing.T) {
	for _, m := range []api.Message{
		{ID: 7, RD: true, Questions: asks("web.pods"), Answers: zone(), Authority: zone(), Extra: zone()},
		{Questions: asks("none")}, {Questions: asks("a", "b")}, {Questions: asks("a..b")}, {Opcode: 2, Questions: asks("a", "b", "c")}, {Reply: true, Questions: asks("a")}, {},
	} {
		want, wantErr := Answer(roomy(m), roomyRecords(zone()))
		in, z := roomy(m), roomyRecords(zone())
		reply, err := Answer(in, z)
		other, _ := Answer(in, z)
		if !same(in, m) || !isRoomy(in) || !sameRecords(z, zone()) || !areRoomy(z) {
			t.Fatal("P24.6: Answer changes what is handed in")
		}
		scribble(other)
		if !same(in, m) || !isRoomy(in) || !sameRecords(z, zone()) || !areRoomy(z) {
			t.Fatal("P24.6: who writes into an answer changes what was handed in")
		}
		if !same(reply, want) {
			t.Fatal("P24.6: two answers share memory")
		}
		scribble(in)
		scribbleRecords(z)
		if err != wantErr || !same(reply, want) {
			t.Fatal("P24.6: Answer keeps what is handed in")
		}
	}
}

// The data of records that are handed in may be one piece of memory.
func TestP24_6DataThatShares(t *testing.T) {
	block := []byte("a.b.c.d")
	z := []api.Record{{Name: "x", Type: 5, Class: 1, Data: block[:3]}, {Name: "a.b", Type: 5, Class: 1, Data: block[4:]}, {Name: "c.d", Type: 1, Class: 1, Data: block[3:7]}}
	m := api.Message{Questions: asks("x"), Answers: z, Extra: z}
	b := mustBuild(t, m)
	reply, _ := answered(t, m, z)
	if string(block) != "a.b.c.d" || len(reply.Answers) != 3 {
		t.Errorf("P24.6: the memory is %q then, and the answer %+v", block, reply)
	}
	scribble(reply)
	if string(block) != "a.b.c.d" {
		t.Errorf("P24.6: the memory is %q then", block)
	}
	if got := mustParse(t, b); !sameRecords(got.Answers, z) {
		t.Errorf("P24.6: %+v", got)
	}
}

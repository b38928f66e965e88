package icmp

import (
	"bytes"
	"math"
	"slices"
	"sync"
	"testing"

	"weft/api"
)

// roomy is a copy of a list with spare room behind it; all is that memory.
func roomy(b []byte) (list, all []byte) {
	all = append(slices.Clone(b), fill(64, 0xa5)...)
	return all[:len(b)], all
}

// scribble writes over lists and their spare room.
func scribble(lists ...[]byte) {
	for _, b := range lists {
		for i := range b[:cap(b)] {
			b[:cap(b)][i] = 0x5a
		}
	}
}

// call is a call with packets' or messages' lists in it and out of it, and what it is to answer.
type call struct {
	name  string
	given [][]byte
	ask   func(given [][]byte) (lists [][]byte, err api.Errno)
}

// checkMemory asks a call with roomy lists: it changes none of them; what is written over them later, or over one list that it answered, is not seen in another list, nor in the answer to the same call again.
func checkMemory(t *testing.T, c call) {
	t.Helper()
	want, wantErr := c.ask(c.given)
	for i := range want {
		want[i] = slices.Clone(want[i])
	}
	var lists, all, before [][]byte
	for _, b := range c.given {
		list, memory := roomy(b)
		lists, all, before = append(lists, list), append(all, memory), append(before, slices.Clone(memory))
	}
	got, err := c.ask(lists)
	for i := range all {
		if !bytes.Equal(all[i], before[i]) {
			t.Fatalf("P6.8: %s changes what is handed in, list %d", c.name, i)
		}
	}
	scribble(all...)
	if err != wantErr || !slices.EqualFunc(got, want, bytes.Equal) {
		t.Fatalf("P6.8: %s answers what was handed in", c.name)
	}
	for i := range got {
		scribble(got[i])
		for j := i + 1; j < len(got); j++ {
			if !bytes.Equal(got[j], want[j]) {
				t.Fatalf("P6.8: %s: list %d shares memory with list %d", c.name, i, j)
			}
		}
	}
	again, err := c.ask(c.given)
	scribble(got...)
	if err != wantErr || !slices.EqualFunc(again, want, bytes.Equal) {
		t.Fatalf("P6.8: %s answers memory twice", c.name)
	}
}

// callsOf has the five calls with the packet p, its body as a message's bytes and as a message's body.
func callsOf(p api.Packet) []call {
	of := func(given [][]byte) api.Packet {
		q := p
		q.Head.Opts, q.Body = given[0], given[1]
		return q
	}
	given := [][]byte{p.Head.Opts, p.Body}
	return []call{
		{"Parse", given[1:], func(given [][]byte) ([][]byte, api.Errno) {
			c, err := Parse(given[0])
			return [][]byte{c.Body}, err
		}},
		{"Build", given[1:], func(given [][]byte) ([][]byte, api.Errno) {
			b, err := Build(api.Control{Type: 3, Rest: 9, Body: given[0]})
			return [][]byte{b}, err
		}},
		{"Fault", given, func(given [][]byte) ([][]byte, api.Errno) {
			q, err := Fault(of(given), 3, 4, 576, gate)
			return [][]byte{q.Head.Opts, q.Body}, err
		}},
		{"Echo", given, func(given [][]byte) ([][]byte, api.Errno) {
			q, err := Echo(of(given))
			return [][]byte{q.Head.Opts, q.Body}, err
		}},
		{"About", given, func(given [][]byte) ([][]byte, api.Errno) {
			h, b, err := About(of(given))
			return [][]byte{h.Opts, b}, err
		}},
	}
}

func TestP6_8Memory(t *testing.T) {
	roll := dice()
	quoting := with(example(), func(p *api.Packet) { p.Head.Opts = unhex("83030400") })
	fault, _ := Fault(quoting, 11, 0, 0, gate)
	packets := []api.Packet{{}, example(), quoting, exampleRequest(), fault, carrying(nil)}
	packets = append(packets, with(exampleRequest(), func(p *api.Packet) { p.Head.Opts = fill(40, 1) }))
	packets = append(packets, with(fault, func(p *api.Packet) { p.Head.Opts = fill(40, 1) }))
	for range 2000 {
		packets = append(packets, someCarrier(roll))
	}
	for _, p := range packets {
		for _, c := range callsOf(p) {
			checkMemory(t, c)
		}
	}
}

// Options and body of what is handed in may be one piece of memory.
func TestP6_8ListsThatShare(t *testing.T) {
	block := fill(100, 1)
	p := with(example(), func(p *api.Packet) { p.Head.Opts, p.Body = block[:8], block[:16] })
	q, err := Fault(p, 3, 1, 0, gate)
	isErr(t, "P6.8: lists that share", err, api.OK)
	scribble(block)
	h, b, err := About(q)
	if err != api.OK || !bytes.Equal(h.Opts, fill(8, 1)) || !bytes.Equal(b, fill(8, 1)) {
		t.Fatalf("P6.8: About = %+v, %x, %d", h, b, err)
	}
	_ = append(h.Opts, 0x5a, 0x5a, 0x5a, 0x5a)
	if !bytes.Equal(b, fill(8, 1)) {
		t.Errorf("P6.8: an append to the options reaches the quoted bytes")
	}
}

// A nil list is an empty one.
func TestP0_4NilLists(t *testing.T) {
	empty := api.Packet{Head: api.Head{Proto: 17, Src: sender, Dst: target, Opts: []byte{}}, Body: []byte{}}
	none := api.Packet{Head: api.Head{Proto: 17, Src: sender, Dst: target}}
	a, err := checkFault(t, empty, 3, 1, 0, gate)
	isErr(t, "P0.4: empty", err, api.OK)
	b, err := checkFault(t, none, 3, 1, 0, gate)
	isErr(t, "P0.4: nil", err, api.OK)
	if !samePacket(a, b) {
		t.Errorf("P0.4: %s and %s", brief(a), brief(b))
	}
}

// Beside an error all else is zero: a fault's or a reply's fields too.
func TestP0_2ZeroBesideErrors(t *testing.T) {
	roll := dice()
	for range 20000 {
		p := someCarrier(roll)
		if q, err := Fault(p, byte(roll.Intn(14)), byte(roll.Intn(4)), roll.Intn(2), someAddr(roll)); err != api.OK && !samePacket(q, api.Packet{}) {
			t.Fatalf("P0.2: Fault(%s) = %s, %d", brief(p), brief(q), err)
		}
		if q, err := Echo(p); err != api.OK && !samePacket(q, api.Packet{}) {
			t.Fatalf("P0.2: Echo(%s) = %s, %d", brief(p), brief(q), err)
		}
		if h, b, err := About(p); err != api.OK && (!sameHead(h, api.Head{}) || len(b) > 0) {
			t.Fatalf("P0.2: About(%s) = %+v, %x, %d", brief(p), h, b, err)
		}
		if c, err := Parse(p.Body); err != api.OK && !sameControl(c, api.Control{}) {
			t.Fatalf("P0.2: Parse(%x) = %v, %d", p.Body, c, err)
		}
	}
}

// No arguments make a call panic.
func TestP0_1AnyArguments(t *testing.T) {
	roll := dice()
	offs := []int{0, 0, 8, -1, -8, 7, 65528, 65536, math.MaxInt, math.MaxInt - 7, math.MinInt}
	sizes := []int{0, 1, 7, 8, 9, 19, 20, 28, 60, 61, 65507, 65515, 65516, 65535, 65536, 70000}
	args := []int{0, 1, -1, 255, 256, 65535, 65536, math.MaxInt, math.MinInt}
	for range 3000 {
		p := somePacket(roll, sizes[roll.Intn(len(sizes))])
		p.Head.Off = offs[roll.Intn(len(offs))]
		if roll.Intn(2) == 0 {
			p.Head.Opts = some(roll, roll.Intn(50))
		}
		checkFault(t, p, byte(roll.Int()), byte(roll.Int()), args[roll.Intn(len(args))], api.Addr(roll.Uint32()))
		checkFault(t, p, 3, 4, args[roll.Intn(len(args))], gate)
		checkEcho(t, p)
		checkAbout(t, p)
		checkParse(t, p.Body)
		checkBuild(t, api.Control{Type: byte(roll.Int()), Code: byte(roll.Int()), Rest: roll.Uint32(), Body: p.Body})
	}
}

// The same arguments make the same answer, whatever was asked ahead of it or is asked beside it.
func TestP0_5ArgumentsAlone(t *testing.T) {
	var group sync.WaitGroup
	for range 8 {
		group.Go(func() {
			roll := dice()
			for range 1000 {
				p := someCarrier(roll)
				checkFault(t, p, 11, 0, 0, gate)
				checkEcho(t, p)
				checkAbout(t, p)
			}
		})
	}
	group.Wait()
}

package nat

import (
	"bytes"
	"slices"
	"testing"

	"weft/api"
	"weft/flow"
	"weft/icmp"
)

// P23.7 and P0.3: what is handed in is neither changed nor kept, what is answered is the caller's own.

// roomy is the packet with spare room behind its lists; all is that memory.
func roomy(p api.Packet) (q api.Packet, all [][]byte) {
	lay := func(b []byte) []byte {
		block := append(bytes.Clone(b), bytes.Repeat([]byte{0xa5}, 64)...)
		all = append(all, block)
		return block[:len(b)]
	}
	p.Head.Opts, p.Body = lay(p.Head.Opts), lay(p.Body)
	return p, all
}

// copied is a packet whose lists are its own.
func copied(p api.Packet) api.Packet {
	p.Head.Opts, p.Body = bytes.Clone(p.Head.Opts), bytes.Clone(p.Body)
	return p
}

// scribble writes over a list, its spare room too, and appends to it.
func scribble(b []byte) {
	whole := b[:cap(b)]
	for i := range whole {
		whole[i] = 0x5a
	}
	_ = append(b, 0x5b)
}

// call is a Turn or a TurnFault that is answered OK.
type call struct {
	name string
	p    api.Packet
	make func(p api.Packet) (api.Packet, api.Errno)
}

// calls are of each protocol and with all options, to the packet's own tuple and to another one.
func calls(t *testing.T) []call {
	t.Helper()
	var list []call
	for _, proto := range protos {
		for _, opts := range areas {
			own := tup(cli, vip, proto, 7, 7)
			p := of(own, counted(30)...)
			p.Head.Opts = opts
			f, err := icmp.Fault(p, 3, 1, 0, gate)
			if err != api.OK {
				t.Fatal(err)
			}
			f.Head.Opts = opts
			for _, u := range []api.Tuple{own, tup(pub, web, proto, 9, 9)} {
				list = append(list,
					call{"Turn", p, func(p api.Packet) (api.Packet, api.Errno) { return Turn(p, u) }},
					call{"TurnFault", f, func(p api.Packet) (api.Packet, api.Errno) { return TurnFault(p, gate, cli, u) }},
				)
			}
		}
	}
	return list
}

func TestP23_7HandedIn(t *testing.T) {
	for _, c := range calls(t) {
		want, err := c.make(copied(c.p))
		if err != api.OK {
			t.Fatalf("%s: %d", c.name, err)
		}
		p, all := roomy(c.p)
		was := [][]byte{bytes.Clone(all[0]), bytes.Clone(all[1])}
		q, _ := c.make(p)
		if !slices.EqualFunc(all, was, bytes.Equal) || !same(p, c.p) {
			t.Errorf("P23.7: %s changes what is handed in", c.name)
		}
		for _, block := range all {
			scribble(block)
		}
		if !same(q, want) {
			t.Errorf("P23.7: %s keeps what is handed in", c.name)
		}
		p, all = roomy(c.p)
		q, _ = c.make(p)
		scribble(q.Head.Opts)
		scribble(q.Body)
		if !slices.EqualFunc(all, was, bytes.Equal) {
			t.Errorf("P23.7: who writes into the answer of %s changes what was handed in", c.name)
		}
	}
}

func TestP23_7AnswersAreApart(t *testing.T) {
	for _, c := range calls(t) {
		want, _ := c.make(c.p)
		one, _ := c.make(c.p)
		two, _ := c.make(c.p)
		scribble(one.Head.Opts)
		if !bytes.Equal(one.Body, want.Body) {
			t.Errorf("P23.7: Opts and Body of %s share memory", c.name)
		}
		scribble(one.Body)
		if !same(two, want) {
			t.Errorf("P23.7: two answers of %s share memory", c.name)
		}
		scribble(two.Body)
		if !bytes.Equal(two.Head.Opts, want.Head.Opts) {
			t.Errorf("P23.7: Body and Opts of %s share memory", c.name)
		}
		if three, _ := c.make(c.p); !same(three, want) {
			t.Errorf("P23.7: %s answers otherwise behind what was written into its answers", c.name)
		}
	}
}

// What is refused is not changed either.
func TestP23_7Refused(t *testing.T) {
	u := tup(cli, vip, 17, 7, 7)
	for _, list := range errPackets(u) {
		for _, p := range list {
			q, all := roomy(p)
			was := [][]byte{bytes.Clone(all[0]), bytes.Clone(all[1])}
			Turn(q, u)
			TurnFault(q, vip, cli, u)
			if !slices.EqualFunc(all, was, bytes.Equal) {
				t.Errorf("P23.7: what is refused is changed")
			}
		}
	}
	p, all := roomy(of(tup(cli, vip, 1, 7, 7), counted(40)...))
	was := bytes.Clone(all[1])
	Turn(p, tup(cli, web, 1, 8, 9))
	f, faultAll := roomy(telling(4, 0, 0, inner(17), 64, front(17, 20)))
	faultWas := bytes.Clone(faultAll[1])
	TurnFault(f, vip, cli, toTuple(17))
	if !bytes.Equal(all[1], was) || !bytes.Equal(faultAll[1], faultWas) {
		t.Error("P23.7: what is refused is changed")
	}
}

// Options and body of what is handed in may be one piece of memory.
func TestP23_7ListsThatShare(t *testing.T) {
	block := append([]byte{1, 1, 1, 1}, counted(36)...)
	was := bytes.Clone(block)
	p := api.Packet{Head: api.Head{Proto: 17, Src: cli, Dst: vip, Opts: block[:4]}, Body: block[:24]}
	q, err := Turn(p, tup(cli, web, 17, 9, 9))
	if err != api.OK || !bytes.Equal(block, was) || !bytes.Equal(q.Head.Opts, was[:4]) || !bytes.Equal(q.Body[:4], hx("00090009")) {
		t.Errorf("P23.7: %+v, %d, and left %x", q, err, block)
	}
	if u, _ := flow.Of(p); u.SrcPort != 0x0101 {
		t.Errorf("P23.7: the packet handed in has the tuple %+v", u)
	}
}

func TestP23_7Backends(t *testing.T) {
	r := dice()
	for range 200 {
		all := someBackends(20)
		was := slices.Clone(all)
		n := 1 + r.Intn(19)
		u := someTuple(r)
		i := picked(t, u, all[:n]...)
		if !slices.Equal(all, was) {
			t.Fatal("P23.7: Pick changes what is handed in")
		}
		for k := range all {
			all[k] = api.Backend{}
		}
		if k := picked(t, u, was[:n]...); k != i {
			t.Errorf("P23.7: %d, then %d", i, k)
		}
	}
}

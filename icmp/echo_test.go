package icmp

import (
	"testing"

	"weft/api"
)

func exampleRequest() api.Packet {
	return carrying(unhex("0800339a 00010002 616263"))
}

func TestP6_4Examples(t *testing.T) {
	want := api.Packet{Head: api.Head{TTL: 64, Proto: 1, Src: target, Dst: sender}, Body: unhex("00003b9a 00010002 616263")}
	q, err := Echo(exampleRequest())
	if err != api.OK || !samePacket(q, want) {
		t.Errorf("P6.4: Echo = %s, %d, want %s", brief(q), err, brief(want))
	}
	_, err = checkEcho(t, q)
	isErr(t, "P6.4: Echo of a reply", err, api.ErrNotEcho)
	_, err = checkEcho(t, example())
	isErr(t, "P6.4: Echo of another packet", err, api.ErrICMP)
}

// The head of a reply owes to the request its TOS and its two addresses, turned.
func TestP6_4Head(t *testing.T) {
	p := exampleRequest()
	p.Head = api.Head{TOS: 255, ID: 65535, DF: true, TTL: 0, Proto: 1, Src: 1 << 24, Dst: 0xdfffffff, Opts: fill(40, 1)}
	q, err := checkEcho(t, p)
	isErr(t, "P6.4: all fields set", err, api.OK)
	if want := (api.Head{TOS: 255, TTL: 64, Proto: 1, Src: 0xdfffffff, Dst: 1 << 24}); !sameHead(q.Head, want) {
		t.Errorf("P6.4: the head is %+v, want %+v", q.Head, want)
	}
}

func TestP6_4Bodies(t *testing.T) {
	for _, n := range []int{0, 1, 2, 7, 8, 9, 1472, 65506, 65507} {
		for _, rest := range []uint32{0, 1, 0x01020304, 1<<32 - 1} {
			_, err := checkEcho(t, carrying(built(8, 0, rest, run(n))))
			isErr(t, "P6.4: a body", err, api.OK)
		}
	}
	p := carrying(built(8, 0, 5, run(65467)))
	p.Head.Opts = fill(40, 1)
	_, err := checkEcho(t, p)
	isErr(t, "P6.4: the longest request with the longest options", err, api.OK)
}

// A request whose right sum is 0, or whose reply's is, and a request whose sum is told as 65535.
func TestP6_4SumsThatTurn(t *testing.T) {
	for _, text := range []string{"08000000 f7ff0000", "0800ffff f7ff0000", "0800f7ff 00000000", "0800f7ff ffff0000", "0800f7ff ffffffff"} {
		_, err := checkEcho(t, carrying(unhex(text)))
		isErr(t, "P6.4: "+text, err, api.OK)
	}
}

// Of all types and codes an echo request alone is answered.
func TestP6_4TypesAndCodes(t *testing.T) {
	for typ := range 256 {
		for code := range 256 {
			p := carrying(built(byte(typ), byte(code), 7, run(3)))
			_, err := checkEcho(t, p)
			if (err == api.OK) != (typ == 8 && code == 0) || err != api.OK && err != api.ErrNotEcho {
				t.Fatalf("P6.4: type %d, code %d: %d", typ, code, err)
			}
		}
	}
}

func TestP6_4Addresses(t *testing.T) {
	for _, a := range edgeAddrs() {
		want := api.OK
		if !modelPlain(a) {
			want = api.ErrQuiet
		}
		_, err := checkEcho(t, with(exampleRequest(), func(p *api.Packet) { p.Head.Src = a }))
		isErr(t, "P6.4: Src", err, want)
		_, err = checkEcho(t, with(exampleRequest(), func(p *api.Packet) { p.Head.Dst = a }))
		isErr(t, "P6.4: Dst", err, want)
	}
}

// rung is one of the errors that P6.4 and P6.5 name, and what brings a packet to it.
type rung struct {
	name  string
	spoil func(p *api.Packet)
	want  api.Errno
}

// ladder has the errors of P6.4 from the last that is looked for to the first: each is laid over those ahead of it in the list.
func ladder() []rung {
	return []rung{
		{"Src", func(p *api.Packet) { p.Head.Src = 0 }, api.ErrQuiet},
		{"no request", func(p *api.Packet) { p.Body = built(13, 0, 7, run(8)) }, api.ErrNotEcho},
		{"sum", func(p *api.Packet) { p.Body[3] ^= 1 }, api.ErrSum},
		{"short", func(p *api.Packet) { p.Body = p.Body[:7] }, api.ErrShort},
		{"proto", func(p *api.Packet) { p.Head.Proto = 17 }, api.ErrICMP},
		{"opts", func(p *api.Packet) { p.Head.Opts = unhex("8307040a") }, api.ErrOpts},
	}
}

func TestP6_4OrderOfErrors(t *testing.T) {
	p := carrying(built(8, 0, 7, run(8)))
	for _, r := range ladder() {
		r.spoil(&p)
		_, err := checkEcho(t, p)
		isErr(t, "P6.4: "+r.name, err, r.want)
		for _, piece := range []func(p *api.Packet){
			func(p *api.Packet) { p.Head.Off = 8 },
			func(p *api.Packet) { p.Head.MF, p.Body = true, p.Body[:len(p.Body)/8*8] },
		} {
			q := with(p, piece)
			if q.Head.MF && len(q.Body) == 0 {
				continue
			}
			want := api.ErrICMP
			if r.want == api.ErrOpts {
				want = api.ErrOpts
			}
			_, err := checkEcho(t, q)
			isErr(t, "P6.4: a piece, "+r.name, err, want)
		}
	}
}

func TestP6_4PacketThatMayNotBe(t *testing.T) {
	for _, c := range []struct {
		change func(p *api.Packet)
		want   api.Errno
	}{
		{func(p *api.Packet) { p.Head.Off = 4 }, api.ErrOff},
		{func(p *api.Packet) { p.Head.Off = -8 }, api.ErrOff},
		{func(p *api.Packet) { p.Head.MF = true }, api.ErrOff},
		{func(p *api.Packet) { p.Body = make([]byte, 65516) }, api.ErrBig},
		{func(p *api.Packet) { p.Head.Opts, p.Body = fill(40, 1), make([]byte, 65476) }, api.ErrBig},
		{func(p *api.Packet) { p.Head.Opts = []byte{1, 1} }, api.ErrOpts},
		{func(p *api.Packet) { p.Body = nil }, api.ErrShort},
		{func(p *api.Packet) { p.Body = make([]byte, 7) }, api.ErrShort},
		{func(p *api.Packet) { p.Body = make([]byte, 65515) }, api.ErrSum},
	} {
		p := with(exampleRequest(), c.change)
		_, err := checkEcho(t, p)
		isErr(t, "P6.4", err, c.want)
		isErr(t, "P6.5", checkAbout(t, p), c.want)
	}
}

func TestP6_4SomePackets(t *testing.T) {
	roll := dice()
	seen := map[api.Errno]int{}
	for range 40000 {
		_, err := checkEcho(t, someCarrier(roll))
		seen[err]++
	}
	for _, err := range []api.Errno{api.OK, api.ErrOpts, api.ErrOff, api.ErrICMP, api.ErrShort, api.ErrSum, api.ErrNotEcho, api.ErrQuiet} {
		if seen[err] < 300 {
			t.Errorf("the test's own packets met the error %d only %d times", err, seen[err])
		}
	}
}

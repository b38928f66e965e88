package icmp

import (
	"bytes"
	"math"
	"testing"

	"weft/api"
	"weft/ip4"
)

const exampleFault = "0b00e4eb 00000000 4500001e 00070000 0111a0bf 0a010203 0a020304 01020304 05060708"

func TestP6_3Examples(t *testing.T) {
	want := api.Packet{Head: api.Head{TTL: 64, Proto: 1, Src: gate, Dst: sender}, Body: unhex(exampleFault)}
	if q, err := Fault(example(), 11, 0, 0, gate); err != api.OK || !samePacket(q, want) {
		t.Errorf("P6.3: Fault = %s, %d, want %s", brief(q), err, brief(want))
	}
	for _, c := range []struct {
		typ, code byte
		arg       int
		front     string
	}{{3, 4, 1450, "0304e73d 000005aa"}, {12, 0, 20, "0c00cfeb 14000000"}} {
		q, err := Fault(example(), c.typ, c.code, c.arg, gate)
		if err != api.OK || !bytes.HasPrefix(q.Body, unhex(c.front)) || !bytes.Equal(q.Body[8:], want.Body[8:]) {
			t.Errorf("P6.3: Fault(%d, %d, %d) = %s, %d", c.typ, c.code, c.arg, brief(q), err)
		}
	}
	for _, c := range []struct {
		typ, code byte
		arg       int
		from      api.Addr
	}{{3, 16, 0, gate}, {8, 0, 0, gate}, {11, 0, 1, gate}, {3, 4, 65536, gate}, {3, 0, 0, 127<<24 + 1}} {
		_, err := Fault(example(), c.typ, c.code, c.arg, c.from)
		isErr(t, "P6.3: an argument that may not be", err, api.ErrArg)
	}
	_, err := Fault(with(example(), func(p *api.Packet) { p.Head.Off = 8 }), 3, 1, 0, gate)
	isErr(t, "P6.3: a later piece", err, api.ErrQuiet)
	_, err = Fault(with(example(), func(p *api.Packet) { p.Head.Src = 0 }), 3, 1, 0, gate)
	isErr(t, "P6.3: from nobody", err, api.ErrQuiet)
}

// Each type with each code, and each argument at the ends of what some fault takes.
func TestP6_3Arguments(t *testing.T) {
	args := []int{0, 1, 2, 20, 254, 255, 256, 257, 1450, 65534, 65535, 65536, 1 << 24, 1 << 32, 1<<32 + 1, math.MaxInt, -1, -2, -255, -65536, -1 << 32, math.MinInt}
	told := 0
	for typ := range 256 {
		for code := range 256 {
			for _, arg := range args {
				_, err := checkFault(t, example(), byte(typ), byte(code), arg, gate)
				if err == api.OK {
					told++
				}
			}
		}
		if t.Failed() {
			return
		}
	}
	// Fifteen codes of type 3, two of 11 and two of 12 take 0 alone; code 4 takes eleven of the list, type 12's code 0 six.
	if told != 15+2+2+11+6 {
		t.Errorf("P6.3: %d faults were told", told)
	}
}

func TestP6_3EveryMTUAndPlace(t *testing.T) {
	for arg := range 65536 {
		q, err := Fault(example(), 3, 4, arg, gate)
		if err != api.OK || !bytes.Equal(q.Body[4:8], []byte{0, 0, byte(arg / 256), byte(arg)}) || ip4.Sum(q.Body) != 0 {
			t.Fatalf("P6.3: Fault(3, 4, %d) = %s, %d", arg, brief(q), err)
		}
	}
	for arg := range 256 {
		q, err := Fault(example(), 12, 0, arg, gate)
		if err != api.OK || !bytes.Equal(q.Body[4:8], []byte{byte(arg), 0, 0, 0}) || ip4.Sum(q.Body) != 0 {
			t.Fatalf("P6.3: Fault(12, 0, %d) = %s, %d", arg, brief(q), err)
		}
	}
}

func TestP6_3Addresses(t *testing.T) {
	for _, a := range edgeAddrs() {
		wantArg, wantQuiet := api.OK, api.OK
		if !modelPlain(a) {
			wantArg, wantQuiet = api.ErrArg, api.ErrQuiet
		}
		_, err := checkFault(t, example(), 3, 1, 0, a)
		isErr(t, "P6.3: from", err, wantArg)
		_, err = checkFault(t, with(example(), func(p *api.Packet) { p.Head.Src = a }), 3, 1, 0, gate)
		isErr(t, "P6.3: Src", err, wantQuiet)
		_, err = checkFault(t, with(example(), func(p *api.Packet) { p.Head.Dst = a }), 3, 1, 0, gate)
		isErr(t, "P6.3: Dst", err, wantQuiet)
		for _, b := range edgeAddrs() {
			checkFault(t, with(example(), func(p *api.Packet) { p.Head.Src, p.Head.Dst = a, b }), 11, 1, 0, gate)
		}
	}
}

func TestP6_3PacketThatMayNotBe(t *testing.T) {
	for _, c := range []struct {
		change func(p *api.Packet)
		want   api.Errno
	}{
		{func(p *api.Packet) { p.Head.Opts = unhex("8307040a") }, api.ErrOpts},
		{func(p *api.Packet) { p.Head.Opts = []byte{1} }, api.ErrOpts},
		{func(p *api.Packet) { p.Head.Opts = fill(44, 1) }, api.ErrOpts},
		{func(p *api.Packet) { p.Head.Off = 4 }, api.ErrOff},
		{func(p *api.Packet) { p.Head.Off = -8 }, api.ErrOff},
		{func(p *api.Packet) { p.Head.Off = math.MinInt }, api.ErrOff},
		{func(p *api.Packet) { p.Head.Off = math.MaxInt - 7 }, api.ErrOff},
		{func(p *api.Packet) { p.Head.MF = true }, api.ErrOff},
		{func(p *api.Packet) { p.Head.MF, p.Body = true, nil }, api.ErrOff},
		{func(p *api.Packet) { p.Body = make([]byte, 65516) }, api.ErrBig},
		{func(p *api.Packet) { p.Body = make([]byte, 65536) }, api.ErrOff},
		{func(p *api.Packet) { p.Head.Opts, p.Body = fill(40, 1), make([]byte, 65476) }, api.ErrBig},
	} {
		p := with(example(), c.change)
		_, err := checkFault(t, p, 3, 1, 0, gate)
		isErr(t, "P6.3: a packet that may not be", err, c.want)
		// It comes behind ErrArg, and ahead of ErrQuiet.
		_, err = checkFault(t, p, 3, 16, 0, gate)
		isErr(t, "P6.3: the type comes first", err, api.ErrArg)
		_, err = checkFault(t, p, 3, 1, 1, gate)
		isErr(t, "P6.3: the argument comes first", err, api.ErrArg)
		_, err = checkFault(t, p, 3, 1, 0, 0)
		isErr(t, "P6.3: from comes first", err, api.ErrArg)
		p.Head.Src, p.Head.Proto = 0, 1
		_, err = checkFault(t, p, 3, 1, 0, gate)
		isErr(t, "P6.3: quiet comes last", err, c.want)
	}
	quiet := with(example(), func(p *api.Packet) { p.Head.Src, p.Head.Off = 0, 8 })
	_, err := checkFault(t, quiet, 4, 0, 0, gate)
	isErr(t, "P6.3: ErrArg ahead of ErrQuiet", err, api.ErrArg)
}

// A fault is told about a first piece, and about no later one.
func TestP6_3Pieces(t *testing.T) {
	for _, proto := range []byte{1, 6, 17} {
		for _, more := range []bool{false, true} {
			for _, off := range []int{0, 8, 16, 65520} {
				p := example()
				p.Head.Proto, p.Head.MF, p.Head.Off, p.Body = proto, more, off, append([]byte{8}, run(7)...)
				_, err := checkFault(t, p, 3, 1, 0, gate)
				if off > 0 {
					isErr(t, "P6.3: a later piece", err, api.ErrQuiet)
				} else {
					isErr(t, "P6.3: a first piece", err, api.OK)
				}
			}
		}
	}
}

// Of a control message the type decides, even where the rest is missing or spoilt.
func TestP6_3AboutControlMessages(t *testing.T) {
	for typ := range 256 {
		for _, n := range []int{1, 2, 7, 8, 9, 40} {
			for _, proto := range []byte{0, 1, 2, 17} {
				body := fill(n, 0xee)
				body[0] = byte(typ)
				p := example()
				p.Head.Proto, p.Body = proto, body
				want := api.OK
				if proto == 1 && modelIsFault(byte(typ)) {
					want = api.ErrQuiet
				}
				_, err := checkFault(t, p, 11, 0, 0, gate)
				isErr(t, "P6.3: about a control message", err, want)
			}
		}
	}
	for _, empty := range [][]byte{nil, {}} {
		_, err := checkFault(t, carrying(empty), 11, 0, 0, gate)
		isErr(t, "P6.3: about a control message without a byte", err, api.ErrQuiet)
		_, err = checkFault(t, with(example(), func(p *api.Packet) { p.Body = empty }), 11, 0, 0, gate)
		isErr(t, "P6.3: about another packet without a byte", err, api.OK)
	}
}

// What is quoted: the header with its options, and eight bytes of the body at most.
func TestP6_3Quotes(t *testing.T) {
	for _, opts := range [][]byte{nil, {}, unhex("83030400"), unhex("0703048207040a0900000000"), fill(36, 1), fill(40, 1)} {
		for _, n := range []int{0, 1, 7, 8, 9, 10, 100, 65475} {
			p := example()
			p.Head.Opts, p.Body = opts, run(n)
			q, err := checkFault(t, p, 3, 4, 576, gate)
			isErr(t, "P6.3: a quote", err, api.OK)
			whole, _ := ip4.Build(p)
			if want := whole[:20+len(opts)+min(n, 8)]; !bytes.Equal(q.Body[8:], want) {
				t.Errorf("P6.3: of %s is quoted %x, want %x", brief(p), q.Body[8:], want)
			}
		}
	}
	longest := with(example(), func(p *api.Packet) { p.Body = run(65515) })
	_, err := checkFault(t, longest, 3, 4, 576, gate)
	isErr(t, "P6.3: about the longest packet", err, api.OK)
}

// The head of what is made owes to the packet its sender's address alone.
func TestP6_3Head(t *testing.T) {
	p := example()
	p.Head = api.Head{TOS: 255, ID: 65535, DF: true, MF: true, TTL: 0, Proto: 255, Src: 1 << 24, Dst: 0xdfffffff, Opts: fill(40, 1)}
	p.Body = run(16)
	q, err := checkFault(t, p, 12, 2, 0, target)
	isErr(t, "P6.3: all fields set", err, api.OK)
	if want := (api.Head{TTL: 64, Proto: 1, Src: target, Dst: 1 << 24}); !sameHead(q.Head, want) {
		t.Errorf("P6.3: the head is %+v, want %+v", q.Head, want)
	}
}

func TestP6_3SomePackets(t *testing.T) {
	roll := dice()
	seen := map[api.Errno]int{}
	for range 40000 {
		p := somePacket(roll, roll.Intn(20))
		if roll.Intn(3) == 0 {
			p = someCarrier(roll)
		}
		typ := []byte{3, 3, 11, 12, byte(roll.Intn(14))}[roll.Intn(5)]
		code := []byte{0, 1, 4, byte(roll.Intn(18))}[roll.Intn(4)]
		arg := []int{0, 0, 0, roll.Intn(300), roll.Intn(70000)}[roll.Intn(5)]
		_, err := checkFault(t, p, typ, code, arg, someAddr(roll))
		seen[err]++
	}
	for _, err := range []api.Errno{api.OK, api.ErrArg, api.ErrOpts, api.ErrOff, api.ErrQuiet} {
		if seen[err] < 500 {
			t.Errorf("the test's own packets met the error %d only %d times", err, seen[err])
		}
	}
}

package tunnel

import (
	"bytes"
	"math"
	"testing"

	"weft/api"
	"weft/ip4"
)

func exampleOuter() api.Outer {
	return api.Outer{Src: here, Dst: there, SrcPort: 50000, DstPort: 8472, TTL: 64, VNI: 0x010203}
}

func exampleFrame() api.Frame {
	return api.Frame{Dst: ones(), Src: twos(), Type: 0x0800, Body: []byte{7, 8, 9}}
}

// exampleSealed is the example's frame in its outer packet, byte by byte.
func exampleSealed() []byte {
	return unhex("45000035 00004000 4011b6a2 c000020a c000020b c350 2118 0021 0000 08000000 010203 00 010101010101 020202020202 0800 070809")
}

// with is the outer, changed.
func with(o api.Outer, change func(o *api.Outer)) api.Outer {
	change(&o)
	return o
}

func TestP7_6Example(t *testing.T) {
	if b, err := Seal(exampleOuter(), exampleFrame()); err != api.OK || !bytes.Equal(b, exampleSealed()) {
		t.Errorf("P7.6: Seal = %x, %d, want %x", b, err, exampleSealed())
	}
	b, err := Seal(api.Outer{}, api.Frame{Type: 0x0600})
	want := unhex("45000032 00004000 0011 7abc 00000000 00000000 00000000 001e 0000 08000000 00000000 000000000000 000000000000 0600")
	if err != api.OK || !bytes.Equal(b, want) {
		t.Errorf("P7.6: Seal of zeros = %x, %d, want %x", b, err, want)
	}
}

func TestP7_6VNI(t *testing.T) {
	for vni, want := range map[int]api.Errno{
		-1: api.ErrOuter, 0: api.OK, 1: api.OK, 255: api.OK, 256: api.OK, 65535: api.OK, 65536: api.OK, 1<<23 - 1: api.OK, 1 << 23: api.OK,
		16777214: api.OK, 16777215: api.OK, 16777216: api.ErrOuter, 16777217: api.ErrOuter, 1<<31 - 1: api.ErrOuter, 1 << 31: api.ErrOuter,
		1 << 32: api.ErrOuter, 1<<32 + 1: api.ErrOuter, math.MaxInt: api.ErrOuter, math.MinInt: api.ErrOuter, math.MinInt + 1: api.ErrOuter, -16777215: api.ErrOuter,
	} {
		o := with(exampleOuter(), func(o *api.Outer) { o.VNI = vni })
		b, err := checkSeal(t, o, exampleFrame())
		isErr(t, "P7.6: the VNI", err, want)
		if err == api.OK {
			checkOpened(t, o, exampleFrame(), b)
		}
	}
}

// A bad VNI is told ahead of a bad frame, a long body ahead of a bad type.
func TestP7_6OrderOfErrors(t *testing.T) {
	bad := with(exampleOuter(), func(o *api.Outer) { o.VNI = 1 << 24 })
	long := make([]byte, 65486)
	for _, c := range []struct {
		o    api.Outer
		f    api.Frame
		want api.Errno
	}{
		{bad, api.Frame{Type: 0x05ff}, api.ErrOuter},
		{bad, api.Frame{Type: 0x8100}, api.ErrOuter},
		{bad, api.Frame{Type: 0x0800, Body: long}, api.ErrOuter},
		{bad, api.Frame{Type: 5, Body: long}, api.ErrOuter},
		{exampleOuter(), api.Frame{Type: 5, Body: long}, api.ErrLong},
		{exampleOuter(), api.Frame{Type: 0x8100, Body: long}, api.ErrLong},
		{exampleOuter(), api.Frame{Type: 0x0800, Body: long}, api.ErrLong},
		{exampleOuter(), api.Frame{Type: 0x05ff}, api.ErrFrame},
		{exampleOuter(), api.Frame{}, api.ErrFrame},
		{exampleOuter(), api.Frame{Type: 0x8100}, api.ErrVlan},
		{exampleOuter(), api.Frame{Type: 0x88a8, Body: []byte{1}}, api.ErrVlan},
	} {
		_, err := checkSeal(t, c.o, c.f)
		isErr(t, "P7.6: "+brief(c.f), err, c.want)
	}
}

func TestP7_6Lengths(t *testing.T) {
	for _, n := range edgeSizes() {
		f := api.Frame{Dst: twos(), Src: ones(), Type: 0x86dd, Body: run(n)}
		b, err := checkSeal(t, exampleOuter(), f)
		if n > 65485 {
			isErr(t, "P7.6: a long body", err, api.ErrLong)
			continue
		}
		isErr(t, "P7.6: a body", err, api.OK)
		if len(b) != 50+n {
			t.Errorf("P7.6: a body of %d makes %d bytes", n, len(b))
		}
		checkOpened(t, exampleOuter(), f, b)
	}
}

func TestP7_6EveryType(t *testing.T) {
	for i := range 1 << 16 {
		f := between(uint16(i), []byte{5})
		if b, err := checkSeal(t, exampleOuter(), f); err == api.OK {
			checkOpened(t, exampleOuter(), f, b)
		}
	}
}

func TestP7_6Ends(t *testing.T) {
	for _, src := range edgeAddrs() {
		for _, dst := range edgeAddrs() {
			for _, port := range []uint16{0, 1, 255, 256, 49152, 65535} {
				o := api.Outer{Src: src, Dst: dst, SrcPort: port, DstPort: ^port, TTL: byte(port), VNI: int(port)}
				b, err := checkSeal(t, o, exampleFrame())
				isErr(t, "P7.6: the ends", err, api.OK)
				checkOpened(t, o, exampleFrame(), b)
			}
		}
	}
	for ttl := range 256 {
		o := with(exampleOuter(), func(o *api.Outer) { o.TTL = byte(ttl) })
		b, err := checkSeal(t, o, exampleFrame())
		isErr(t, "P7.6: the TTL", err, api.OK)
		checkOpened(t, o, exampleFrame(), b)
	}
}

// The outer packet is just what ip4 reads: a whole packet with DF and without anything else.
func TestP7_6OuterPacket(t *testing.T) {
	roll := dice()
	for range 2000 {
		o, f := someOuter(roll), someFrame(roll)
		b, err := Seal(o, f)
		if err != api.OK {
			continue
		}
		p, err := ip4.Parse(b)
		h := p.Head
		if err != api.OK || h.TOS != 0 || h.ID != 0 || !h.DF || h.MF || h.Off != 0 || h.TTL != o.TTL || h.Proto != 17 || h.Src != o.Src || h.Dst != o.Dst || len(h.Opts) > 0 {
			t.Fatalf("P7.6: the outer packet of %+v is %+v, %d", o, h, err)
		}
		if back, err := ip4.Build(p); err != api.OK || !bytes.Equal(back, b) {
			t.Fatalf("P7.6: ip4.Build makes %x of it, not %x", back, b)
		}
		if p.Body[6] != 0 || p.Body[7] != 0 {
			t.Fatalf("P7.6: the datagram has a sum: %x", p.Body)
		}
	}
}

// checkOpened: Open of what Seal made, and of it with bytes behind, gives both back.
func checkOpened(t *testing.T, o api.Outer, f api.Frame, b []byte) {
	t.Helper()
	for _, behind := range [][]byte{nil, {0}, {1, 2, 3}} {
		if back, frame, err := Open(joined(b, behind)); err != api.OK || back != o || !sameFrame(frame, f) {
			t.Errorf("P7.7: Open of Seal(%+v, %s) = %+v, %s, %d", o, brief(f), back, brief(frame), err)
		}
	}
}

func TestP7_7ThereAndBack(t *testing.T) {
	roll := dice()
	taken := 0
	for range 10000 {
		o, f := someOuter(roll), someFrame(roll)
		if b, err := checkSeal(t, o, f); err == api.OK {
			taken++
			checkOpened(t, o, f, b)
		}
	}
	if taken < 5000 {
		t.Errorf("the test's own frames were sealed only %d times", taken)
	}
}

// resealed is a packet with the right sum over its header of 20 bytes.
func resealed(b []byte) []byte {
	b = set16(b, 10, 0)
	return set16(b, 10, modelSum(b[:20]))
}

// Each error of Open, by one byte of the example that is another.
func TestP7_7OneByte(t *testing.T) {
	for _, c := range []struct {
		place int
		to    byte
		want  api.Errno
	}{
		{0, 0x55, api.ErrVersion}, {0, 0x44, api.ErrHead}, {3, 19, api.ErrHead}, {3, 54, api.ErrShort}, {3, 52, api.ErrUDP},
		{1, 3, api.OK}, {4, 1, api.OK}, {5, 1, api.OK}, {6, 0, api.OK}, {6, 0xc0, api.ErrHead}, {7, 1, api.ErrPiece}, {6, 0x1f, api.ErrPiece}, {6, 0x20, api.ErrOff},
		{8, 0, api.OK}, {8, 255, api.OK}, {9, 6, api.ErrProto}, {9, 1, api.ErrProto}, {9, 0, api.ErrProto}, {9, 16, api.ErrProto}, {9, 18, api.ErrProto}, {12, 1, api.OK},
		{20, 0, api.OK}, {23, 1, api.OK}, {24, 1, api.ErrUDP}, {25, 0, api.ErrUDP}, {25, 7, api.ErrUDP}, {25, 34, api.ErrUDP}, {25, 33, api.OK}, {25, 32, api.OK},
		{25, 8, api.ErrVX}, {25, 15, api.ErrVX}, {25, 16, api.ErrFrame}, {25, 29, api.ErrFrame}, {25, 30, api.OK}, {26, 1, api.ErrUSum}, {27, 1, api.ErrUSum},
		{28, 0, api.ErrFlags}, {28, 0xf7, api.ErrFlags}, {28, 0x10, api.ErrFlags}, {28, 4, api.ErrFlags}, {28, 0xff, api.OK}, {28, 0x88, api.OK}, {28, 9, api.OK},
		{29, 9, api.OK}, {30, 255, api.OK}, {31, 8, api.OK}, {35, 9, api.OK}, {35, 255, api.OK},
		{48, 5, api.ErrFrame}, {48, 0, api.ErrFrame}, {48, 0x81, api.ErrVlan}, {48, 6, api.OK}, {49, 1, api.OK},
	} {
		b := resealed(set8(exampleSealed(), c.place, c.to))
		_, _, err := Open(b)
		isErr(t, "P7.7: byte "+string(rune('0'+c.place/10))+string(rune('0'+c.place%10)), err, c.want)
		checkOpen(t, b)
	}
}

// Every value of every byte, with the header's sum right and as it was.
func TestP7_7EveryByte(t *testing.T) {
	for place := range exampleSealed() {
		for v := range 256 {
			b := set8(exampleSealed(), place, byte(v))
			checkOpen(t, b)
			checkOpen(t, resealed(b))
		}
	}
}

func TestP7_7Lengths(t *testing.T) {
	b := exampleSealed()
	for n := range b {
		_, _, err := checkOpen(t, b[:n])
		isErr(t, "P7.7: cut", err, api.ErrShort)
	}
	_, _, err := checkOpen(t, nil)
	isErr(t, "P7.7: nil", err, api.ErrShort)
	o, f, err := checkOpen(t, joined(b, make([]byte, 1<<17)))
	if err != api.OK || o != exampleOuter() || !sameFrame(f, exampleFrame()) {
		t.Errorf("P7.7: with many bytes behind: %+v, %s, %d", o, brief(f), err)
	}
}

// carrier is a packet with a datagram of that body, with its sum.
func carrier(head api.Head, body []byte) []byte {
	head.Src, head.Dst = here, there
	d, _ := modelBuildUDP(here, there, api.Datagram{SrcPort: 50000, DstPort: 8472, Body: body}, true)
	return packed(api.Packet{Head: head, Body: d})
}

// A datagram of any length up to a tunnel header and a frame's head, with a right sum.
func TestP7_7ShortHeaders(t *testing.T) {
	whole := unhex("08000000 00000700 010101010101 020202020202 0800 09")
	for n := range len(whole) + 1 {
		_, f, err := checkOpen(t, carrier(api.Head{Proto: 17, TTL: 1}, whole[:n]))
		want := api.OK
		if n < 22 {
			want = api.ErrFrame
		}
		if n < 8 {
			want = api.ErrVX
		}
		isErr(t, "P7.7: a short datagram", err, want)
		if err == api.OK && len(f.Body) != n-22 {
			t.Errorf("P7.7: a datagram of %d bytes has a frame of %d", n, len(f.Body))
		}
	}
}

// What the packet has besides is let go: TOS, ID, DF and options, and the bytes behind the datagram's length.
func TestP7_7LetGo(t *testing.T) {
	body := exampleSealed()[28:]
	for _, head := range []api.Head{
		{}, {TOS: 255}, {ID: 65535}, {DF: true}, {Opts: unhex("83030400")}, {TOS: 1, ID: 2, DF: true, Opts: bytes.Repeat([]byte{1}, 40)},
	} {
		head.Proto, head.TTL = 17, 64
		o, f, err := checkOpen(t, carrier(head, body))
		if err != api.OK || o != exampleOuter() || !sameFrame(f, exampleFrame()) {
			t.Errorf("P7.7: Open of a packet with %+v = %+v, %s, %d", head, o, brief(f), err)
		}
		p, _ := ip4.Parse(carrier(head, body))
		p.Body = append(p.Body, 1, 2, 3)
		o, f, err = checkOpen(t, packed(p))
		if err != api.OK || o != exampleOuter() || !sameFrame(f, exampleFrame()) {
			t.Errorf("P7.7: Open of a packet with bytes behind the datagram = %+v, %s, %d", o, brief(f), err)
		}
	}
}

// Two faults at a time: the one that P7.7 names first is told.
func TestP7_7OrderOfErrors(t *testing.T) {
	short := make([]byte, 8) // a length of 0: no datagram
	piece := func(h api.Head, body []byte) []byte { return packed(api.Packet{Head: h, Body: body}) }
	wrongSum := func(body []byte) []byte {
		b := carrier(api.Head{Proto: 17}, body)
		return set8(b, 27, b[27]^1)
	}
	for _, c := range []struct {
		name string
		b    []byte
		want api.Errno
	}{
		{"a spoilt piece of another protocol", set8(piece(api.Head{MF: true, Proto: 6}, short), 8, 1), api.ErrSum},
		{"a first piece of another protocol", piece(api.Head{MF: true, Proto: 6}, short), api.ErrPiece},
		{"a last piece of another protocol", piece(api.Head{Off: 8, Proto: 6}, short), api.ErrPiece},
		{"a first piece, no datagram in it", piece(api.Head{MF: true, Proto: 17}, short), api.ErrPiece},
		{"a last piece, no datagram in it", piece(api.Head{Off: 65528, Proto: 17}, nil), api.ErrPiece},
		{"a piece between", piece(api.Head{Off: 16, MF: true, Proto: 17}, short), api.ErrPiece},
		{"a piece that would be whole otherwise", piece(api.Head{Off: 8, Proto: 17}, exampleSealed()[20:]), api.ErrPiece},
		{"another protocol, an empty body", piece(api.Head{Proto: 6}, nil), api.ErrProto},
		{"another protocol, no datagram", piece(api.Head{Proto: 1}, short), api.ErrProto},
		{"another protocol, all else right", piece(api.Head{Proto: 18}, exampleSealed()[20:]), api.ErrProto},
		{"an empty body", piece(api.Head{Proto: 17}, nil), api.ErrUDP},
		{"seven bytes", piece(api.Head{Proto: 17}, make([]byte, 7)), api.ErrUDP},
		{"a length of 0", piece(api.Head{Proto: 17}, short), api.ErrUDP},
		{"a wrong sum, a short header", wrongSum(make([]byte, 7)), api.ErrUSum},
		{"a wrong sum, no flag", wrongSum(make([]byte, 30)), api.ErrUSum},
		{"a wrong sum, a short frame", wrongSum(unhex("0800000000000000")), api.ErrUSum},
		{"a short header without the flag", carrier(api.Head{Proto: 17}, make([]byte, 7)), api.ErrVX},
		{"a short header with the flag", carrier(api.Head{Proto: 17}, unhex("08000000000000")), api.ErrVX},
		{"no header", carrier(api.Head{Proto: 17}, nil), api.ErrVX},
		{"no flag, no frame", carrier(api.Head{Proto: 17}, make([]byte, 8)), api.ErrFlags},
		{"no flag, a short frame", carrier(api.Head{Proto: 17}, make([]byte, 21)), api.ErrFlags},
		{"no flag, a bad type", carrier(api.Head{Proto: 17}, make([]byte, 30)), api.ErrFlags},
		{"the flag, no frame", carrier(api.Head{Proto: 17}, unhex("0800000000000000")), api.ErrFrame},
		{"the flag, a tag", carrier(api.Head{Proto: 17}, unhex("0800000000000000 000000000000 000000000000 88a8")), api.ErrVlan},
	} {
		_, _, err := Open(c.b)
		isErr(t, "P7.7: "+c.name, err, c.want)
		checkOpen(t, c.b)
	}
}

func TestP7_7Any(t *testing.T) {
	roll := dice()
	seen := map[api.Errno]int{}
	for range 60000 {
		_, _, err := checkOpen(t, someSealed(roll))
		seen[err]++
	}
	for _, err := range []api.Errno{api.OK, api.ErrShort, api.ErrSum, api.ErrPiece, api.ErrProto, api.ErrUDP, api.ErrUSum, api.ErrVX, api.ErrFlags, api.ErrFrame, api.ErrVlan} {
		if seen[err] < 100 {
			t.Errorf("the test's own packets were answered %d only %d times", err, seen[err])
		}
	}
}

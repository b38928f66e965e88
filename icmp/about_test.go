package icmp

import (
	"bytes"
	"testing"

	"weft/api"
	"weft/ip4"
)

func TestP6_5Examples(t *testing.T) {
	h, b, err := About(api.Packet{Head: api.Head{TTL: 64, Proto: 1, Src: gate, Dst: sender}, Body: unhex(exampleFault)})
	want := example()
	if err != api.OK || !sameHead(h, want.Head) || !bytes.Equal(b, run(8)) {
		t.Errorf("P6.5: About = %+v, %x, %d", h, b, err)
	}
}

func TestP6_5TypesAndCodes(t *testing.T) {
	quote, _ := ip4.Build(example())
	for typ := range 256 {
		for code := range 256 {
			err := checkAbout(t, carrying(built(byte(typ), byte(code), 7, quote)))
			if (err == api.OK) != modelIsFault(byte(typ)) || err != api.OK && err != api.ErrNotEcho {
				t.Fatalf("P6.5: type %d, code %d: %d", typ, code, err)
			}
		}
	}
}

// A fault may quote less than eight bytes, or more, or what is no packet.
func TestP6_5Quotes(t *testing.T) {
	for _, opts := range [][]byte{nil, unhex("83030400"), fill(40, 1)} {
		p := with(example(), func(p *api.Packet) { p.Head.Opts = opts })
		whole, _ := ip4.Build(p)
		for n := range len(whole) + 1 {
			err := checkAbout(t, carrying(built(3, 1, 0, whole[:n])))
			if (err == api.OK) != (n >= 20+len(opts)) || err != api.OK && err != api.ErrShort {
				t.Errorf("P6.5: a quote of %d bytes: %d", n, err)
			}
		}
		isErr(t, "P6.5: bytes behind the packet", checkAbout(t, carrying(built(3, 1, 0, append(whole, 1, 2, 3)))), api.OK)
		for i := range 8 * (20 + len(opts)) {
			if i < 4 {
				continue // the header's length, of which no sum tells
			}
			whole[i/8] ^= 1 << (i % 8)
			if err := checkAbout(t, carrying(built(11, 0, 0, whole))); err == api.OK {
				t.Errorf("P6.5: the quote %x is taken", whole)
			}
			whole[i/8] ^= 1 << (i % 8)
		}
	}
}

// Each error of Peek comes through.
func TestP6_5ErrorsOfPeek(t *testing.T) {
	for _, c := range []struct {
		quote string
		want  api.Errno
	}{
		{"", api.ErrShort},
		{"45", api.ErrShort},
		{"4500001e 00070000 0111a0bf 0a010203 0a0203", api.ErrShort},
		{"5500001e 00070000 0111a0bf 0a010203 0a020304", api.ErrVersion},
		{"4400001e 00070000 0111a0bf 0a010203 0a020304", api.ErrHead},
		{"4600001e 00070000 0111a0bf 0a010203 0a020304", api.ErrShort},
		{"45000013 00070000 0111a0ca 0a010203 0a020304", api.ErrHead},
		{"4500001e 00070000 0111a0be 0a010203 0a020304", api.ErrSum},
		{"4500001e 00078000 011120bf 0a010203 0a020304", api.ErrHead},
		{"4600001e 00070000 011118b8 0a010203 0a020304 83070400", api.ErrOpts},
		{"4500001e 00072000 011180bf 0a010203 0a020304", api.ErrOff},
		{"4500001e 00070000 0111a0bf 0a010203 0a020304", api.OK},
	} {
		for _, typ := range []byte{3, 4, 5, 11, 12} {
			isErr(t, "P6.5: the quote "+c.quote, checkAbout(t, carrying(built(typ, 0, 0, unhex(c.quote)))), c.want)
		}
	}
}

func TestP6_5OrderOfErrors(t *testing.T) {
	p := carrying(built(3, 0, 7, unhex("45")))
	isErr(t, "P6.5: the quote", checkAbout(t, p), api.ErrShort)
	for _, r := range ladder()[1:] {
		r.spoil(&p)
		isErr(t, "P6.5: "+r.name, checkAbout(t, p), r.want)
	}
	for _, change := range []func(p *api.Packet){
		func(p *api.Packet) { p.Head.Off = 8 },
		func(p *api.Packet) { p.Head.MF, p.Body = true, p.Body[:8] },
		func(p *api.Packet) { p.Head.Proto = 0 },
	} {
		q := with(carrying(unhex(exampleFault)), change)
		isErr(t, "P6.5: no whole message", checkAbout(t, q), api.ErrICMP)
		q.Head.Opts = []byte{1}
		isErr(t, "P6.5: a packet that may not be", checkAbout(t, q), api.ErrOpts)
	}
}

// A fault speaks whatever its own addresses are.
func TestP6_5Addresses(t *testing.T) {
	for _, a := range edgeAddrs() {
		for _, b := range edgeAddrs() {
			p := carrying(unhex(exampleFault))
			p.Head.Src, p.Head.Dst = a, b
			isErr(t, "P6.5: addresses", checkAbout(t, p), api.OK)
		}
	}
}

func TestP6_5SomePackets(t *testing.T) {
	roll := dice()
	seen := map[api.Errno]int{}
	for range 40000 {
		seen[checkAbout(t, someCarrier(roll))]++
	}
	for _, err := range []api.Errno{api.OK, api.ErrOpts, api.ErrOff, api.ErrICMP, api.ErrShort, api.ErrSum, api.ErrNotEcho, api.ErrVersion} {
		if seen[err] < 300 {
			t.Errorf("the test's own packets met the error %d only %d times", err, seen[err])
		}
	}
}

// somePairs goes through faults that are told, and the packets that they are about.
func somePairs(t *testing.T, check func(p, q api.Packet)) {
	t.Helper()
	roll := dice()
	told := 0
	for told < 5000 && !t.Failed() {
		p := somePacket(roll, roll.Intn(20))
		if roll.Intn(3) == 0 {
			p = someCarrier(roll)
		}
		typ, code, arg := someFault(roll.Intn)
		q, err := Fault(p, typ, code, arg, someAddr(roll))
		if err == api.OK {
			told++
			check(p, q)
		}
	}
}

// someFault is a type, a code and an argument that may be.
func someFault(pick func(n int) int) (typ, code byte, arg int) {
	switch pick(4) {
	case 0:
		return 3, 4, pick(65536)
	case 1:
		return 12, 0, pick(256)
	case 2:
		return 11, byte(pick(2)), 0
	}
	return 3, []byte{0, 1, 2, 3, 5, 15}[pick(6)], 0
}

func TestP6_6ThereAndBack(t *testing.T) {
	somePairs(t, func(p, q api.Packet) {
		h, b, err := About(q)
		if err != api.OK || !sameHead(h, p.Head) || !bytes.Equal(b, p.Body[:min(8, len(p.Body))]) {
			t.Errorf("P6.6: About(Fault(%s)) = %+v, %x, %d", brief(p), h, b, err)
		}
	})
	for _, opts := range [][]byte{nil, unhex("83030400"), fill(40, 1)} {
		for _, n := range []int{0, 1, 7, 8, 9, 65475} {
			p := with(example(), func(p *api.Packet) { p.Head.Opts, p.Body = opts, run(n) })
			q, _ := Fault(p, 3, 4, 68, gate)
			h, b, err := About(q)
			if err != api.OK || !sameHead(h, p.Head) || !bytes.Equal(b, run(min(n, 8))) {
				t.Errorf("P6.6: About(Fault(%s)) = %+v, %x, %d", brief(p), h, b, err)
			}
		}
	}
}

func TestP6_7NoStorm(t *testing.T) {
	roll := dice()
	somePairs(t, func(p, q api.Packet) {
		typ, code, arg := someFault(roll.Intn)
		if r, err := Fault(q, typ, code, arg, gate); err != api.ErrQuiet || !samePacket(r, api.Packet{}) {
			t.Errorf("P6.7: Fault(%s, %d, %d, %d) = %s, %d", brief(q), typ, code, arg, brief(r), err)
		}
		if r, err := Echo(q); err != api.ErrNotEcho || !samePacket(r, api.Packet{}) {
			t.Errorf("P6.7: Echo(%s) = %s, %d", brief(q), brief(r), err)
		}
	})
}

// Of one fault of each kind, each kind about it.
func TestP6_7EveryKindAboutEveryKind(t *testing.T) {
	kinds := [][3]int{{3, 4, 0}, {3, 4, 65535}, {12, 0, 0}, {12, 0, 255}, {12, 1, 0}, {12, 2, 0}, {11, 0, 0}, {11, 1, 0}}
	for code := range 16 {
		kinds = append(kinds, [3]int{3, code, 0})
	}
	for _, k := range kinds {
		q, err := Fault(example(), byte(k[0]), byte(k[1]), k[2], gate)
		isErr(t, "P6.3: a kind", err, api.OK)
		for _, l := range kinds {
			_, err := Fault(q, byte(l[0]), byte(l[1]), l[2], target)
			isErr(t, "P6.7: a fault about a fault", err, api.ErrQuiet)
		}
	}
}

func TestP6_7EchoReply(t *testing.T) {
	roll := dice()
	for range 2000 {
		p := carrying(built(8, 0, roll.Uint32(), some(roll, roll.Intn(20))))
		q, err := Echo(p)
		isErr(t, "P6.4: a request", err, api.OK)
		r, err := Echo(q)
		if err != api.ErrNotEcho || !samePacket(r, api.Packet{}) {
			t.Errorf("P6.7: Echo(%s) = %s, %d", brief(q), brief(r), err)
		}
		_, err = checkFault(t, q, 11, 0, 0, gate)
		isErr(t, "P6.7: a fault about an echo reply", err, api.OK)
	}
}

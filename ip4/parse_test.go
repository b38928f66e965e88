package ip4

import (
	"bytes"
	"encoding/binary"
	"math/rand"
	"testing"

	"weft/api"
)

const (
	plainBytes   = "45000017 1c464000 40060592 0a010203 0a020304 010203"
	optionsBytes = "47000024 1c462002 40068a67 0a010203 0a020304 8307040a 09090901 01020304 05060708"
	zeroBytes    = "45000014 00000000 0000baeb 00000000 00000000"
)

func plainPacket() api.Packet {
	return api.Packet{Head: api.Head{ID: 7238, DF: true, TTL: 64, Proto: 6, Src: 0x0a010203, Dst: 0x0a020304}, Body: []byte{1, 2, 3}}
}

func optionsPacket() api.Packet {
	p := plainPacket()
	p.Head.DF, p.Head.MF, p.Head.Off = false, true, 16
	p.Head.Opts = unhex("8307040a 09090901")
	p.Body = []byte{1, 2, 3, 4, 5, 6, 7, 8}
	return p
}

// turn changes a copy of the bytes; mended: with the right sum behind that.
func turn(b []byte, mended bool, change func(b []byte)) []byte {
	b = bytes.Clone(b)
	change(b)
	if mended {
		return resealed(b)
	}
	return b
}

func set16(at int, v uint16) func([]byte) {
	return func(b []byte) { binary.BigEndian.PutUint16(b[at:], v) }
}

func set8(at int, v byte) func([]byte) {
	return func(b []byte) { b[at] = v }
}

func TestP3_3Parse(t *testing.T) {
	for _, c := range []struct {
		text string
		want api.Packet
	}{
		{plainBytes, plainPacket()},
		{plainBytes + "ffff", plainPacket()},
		{optionsBytes, optionsPacket()},
		{optionsBytes + "00", optionsPacket()},
		{zeroBytes, api.Packet{}},
		// Every field with a value of its own.
		{"45fe0014 89ab5fff 0f1139ab 81020384 ff0203fd", api.Packet{Head: api.Head{TOS: 0xfe, ID: 0x89ab, DF: true, Off: 65528, TTL: 15, Proto: 17, Src: 0x81020384, Dst: 0xff0203fd}}},
		{"4501001c ffff3ffe ffff7ae4 ffffffff 00000000 0807060504030201", api.Packet{Head: api.Head{TOS: 1, ID: 65535, MF: true, Off: 65520, TTL: 255, Proto: 255, Src: 0xffffffff}, Body: []byte{8, 7, 6, 5, 4, 3, 2, 1}}},
	} {
		b := unhex(c.text)
		checkParse(t, b)
		if p, err := Parse(b); err != api.OK || !samePacket(p, c.want) {
			t.Errorf("P3.3: Parse(%x) = %v, %d, want %v", b, p, err, c.want)
		}
		if h, body, err := Peek(b); err != api.OK || !sameHead(h, c.want.Head) || !bytes.Equal(body, c.want.Body) {
			t.Errorf("P3.4: Peek(%x) = %v, %x, %d, want %v", b, h, body, err, c.want)
		}
	}
}

func TestP3_3EachError(t *testing.T) {
	plain, options := unhex(plainBytes), unhex(optionsBytes)
	// 1
	for n := range 20 {
		checkRefused(t, plain[:n], api.ErrShort, api.ErrShort)
		checkRefused(t, make([]byte, n), api.ErrShort, api.ErrShort)
	}
	checkRefused(t, nil, api.ErrShort, api.ErrShort)
	// 2
	for v := range byte(16) {
		if v != 4 {
			checkRefused(t, turn(plain, true, set8(0, v<<4|5)), api.ErrVersion, api.ErrVersion)
		}
	}
	// 3
	for h := range byte(5) {
		checkRefused(t, turn(plain, true, set8(0, 0x40|h)), api.ErrHead, api.ErrHead)
	}
	// 4
	for n := 20; n < 28; n++ {
		checkRefused(t, options[:n], api.ErrShort, api.ErrShort)
	}
	checkRefused(t, turn(plain, false, set8(0, 0x46)), api.ErrShort, api.ErrShort)
	// 5
	for _, l := range []uint16{0, 1, 19} {
		checkRefused(t, turn(plain, true, set16(2, l)), api.ErrHead, api.ErrHead)
	}
	for _, l := range []uint16{0, 20, 27} {
		checkRefused(t, turn(options, true, set16(2, l)), api.ErrHead, api.ErrHead)
	}
	// 6
	for n := 20; n < 23; n++ {
		checkRefused(t, plain[:n], api.ErrShort, api.OK)
	}
	checkRefused(t, turn(plain, true, set16(2, 24)), api.ErrShort, api.OK)
	checkRefused(t, turn(plain, true, set16(2, 65535)), api.ErrShort, api.OK)
	// 7
	checkRefused(t, turn(plain, false, set16(10, 0x0593)), api.ErrSum, api.ErrSum)
	checkRefused(t, turn(plain, false, set16(10, 0)), api.ErrSum, api.ErrSum)
	checkRefused(t, turn(options, false, set8(27, 0)), api.ErrSum, api.ErrSum)
	// 8
	checkRefused(t, turn(plain, true, set16(6, 0x8000)), api.ErrHead, api.ErrHead)
	checkRefused(t, turn(plain, true, set16(6, 0xc000)), api.ErrHead, api.ErrHead)
	// 9
	checkRefused(t, turn(options, true, set8(27, 0x83)), api.ErrOpts, api.ErrOpts)
	checkRefused(t, turn(options, true, set8(21, 1)), api.ErrOpts, api.ErrOpts)
	checkRefused(t, turn(options, true, set8(21, 9)), api.ErrOpts, api.ErrOpts)
	checkRefused(t, turn(options, true, set8(20, 0)), api.ErrOpts, api.ErrOpts)
	// 10
	checkRefused(t, turn(plain, true, set16(6, 0x2000)), api.ErrOff, api.ErrOff)
	checkRefused(t, turn(plain[:20], true, func(b []byte) { b[3], b[6] = 20, 0x20 }), api.ErrOff, api.ErrOff)
	checkRefused(t, turn(options, true, set16(6, 0x1fff)), api.ErrOff, api.ErrOff)
}

// TestP3_3OrderOfErrors gives the bytes one fault more at a time, from the last error up to the first: each hides those behind it.
func TestP3_3OrderOfErrors(t *testing.T) {
	b := unhex("4600 0020 0001 3fff 4006 0000 0a010203 0a020304 01010101 0102030405060708")
	b = resealed(b)
	checkRefused(t, b, api.ErrOff, api.ErrOff)
	b = turn(b, true, set8(23, 0x83))
	checkRefused(t, b, api.ErrOpts, api.ErrOpts)
	b = turn(b, true, set8(6, 0xbf))
	checkRefused(t, b, api.ErrHead, api.ErrHead)
	b = turn(b, false, set16(10, 0))
	checkRefused(t, b, api.ErrSum, api.ErrSum)
	checkRefused(t, b[:31], api.ErrShort, api.ErrSum)
	b = turn(b, false, set16(2, 23))
	checkRefused(t, b, api.ErrHead, api.ErrHead)
	checkRefused(t, b[:23], api.ErrShort, api.ErrShort)
	b = turn(b, false, set8(0, 0x44))
	checkRefused(t, b[:20], api.ErrHead, api.ErrHead)
	b = turn(b, false, set8(0, 0x54))
	checkRefused(t, b, api.ErrVersion, api.ErrVersion)
	checkRefused(t, b[:20], api.ErrVersion, api.ErrVersion)
	checkRefused(t, b[:19], api.ErrShort, api.ErrShort)
}

func TestP3_3PieceInOrder(t *testing.T) {
	for _, c := range []struct {
		units, flags uint16
		body         int
		want         api.Errno
	}{
		{0, 0, 0, api.OK},
		{0, 0x4000, 0, api.OK},
		{0, 0x2000, 0, api.ErrOff},
		{0, 0x2000, 7, api.ErrOff},
		{0, 0x2000, 8, api.OK},
		{0, 0x2000, 12, api.ErrOff},
		{0, 0x6000, 16, api.OK},
		{3, 0x6000, 16, api.OK},
		{3, 0x4000, 5, api.OK},
		{3, 0, 0, api.OK},
		{0, 0, 65515, api.OK},
		{0, 0x2000, 65512, api.OK},
		{2, 0, 65515, api.OK},
		{3, 0, 65511, api.OK},
		{3, 0, 65512, api.ErrOff},
		{8191, 0, 0, api.OK},
		{8191, 0x4000, 7, api.OK},
		{8191, 0, 8, api.ErrOff},
		{8191, 0x2000, 0, api.ErrOff},
		{8191, 0x2000, 8, api.ErrOff},
		{8190, 0x2000, 8, api.OK},
		{8190, 0, 15, api.OK},
		{8190, 0, 16, api.ErrOff},
	} {
		b := joined(unhex(plainBytes)[:20], fill(c.body, 5), []byte{1})
		set16(2, uint16(20+c.body))(b)
		set16(6, c.flags|c.units)(b)
		b = resealed(b)
		checkRefused(t, b, c.want, c.want)
		if c.body > 0 {
			// The told length counts, not what is there.
			checkRefused(t, b[:20], api.ErrShort, c.want)
			checkRefused(t, b[:20+c.body/2], api.ErrShort, c.want)
		}
	}
}

func TestP3_3SumFieldOf65535(t *testing.T) {
	p := plainPacket()
	b := modelBuild(p)
	p.Head.ID = modelSum(joined(b[:4], b[6:10], b[12:20])) // makes the words come to a multiple of 65535
	b = modelBuild(p)
	if got := binary.BigEndian.Uint16(b[10:]); got != 0 {
		t.Fatalf("the test's own header has the sum %d", got)
	}
	other := turn(b, false, set16(10, 65535))
	for _, c := range [][]byte{b, other} {
		checkRefused(t, c, api.OK, api.OK)
		if got, err := Parse(c); err != api.OK || !samePacket(got, p) {
			t.Errorf("P3.3: Parse(%x) = %v, %d", c, got, err)
		}
		if back, err := Build(p); err != api.OK || !bytes.Equal(back, b) {
			t.Errorf("P3.6: Build = %x, %d, want %x", back, err, b)
		}
	}
}

func TestP3_4Peek(t *testing.T) {
	options := joined(unhex(optionsBytes), []byte{9, 9, 9})
	for n := range len(options) + 1 {
		h, body, err := Peek(options[:n])
		if n < 28 {
			if err != api.ErrShort || !sameHead(h, api.Head{}) || len(body) != 0 {
				t.Errorf("P3.4: Peek of %d bytes = %v, %x, %d", n, h, body, err)
			}
			continue
		}
		if err != api.OK || !sameHead(h, optionsPacket().Head) || !bytes.Equal(body, optionsPacket().Body[:min(n-28, 8)]) {
			t.Errorf("P3.4: Peek of %d bytes = %v, %x, %d", n, h, body, err)
		}
	}
}

// spoilt changes some bytes that tell something.
func spoilt(roll *rand.Rand, b []byte) []byte {
	b = bytes.Clone(b)
	for range 1 + roll.Intn(3) {
		switch at := roll.Intn(len(b)); roll.Intn(9) {
		case 0:
			b[0] = 0x40 | byte(roll.Intn(16))
		case 1:
			set16(2, uint16(roll.Intn(100)))(b)
		case 2:
			set16(6, uint16(roll.Intn(8)<<13|[]int{0, 1, 8185, 8190, 8191}[roll.Intn(5)]))(b)
		case 3:
			set16(2, uint16(len(b)-2+roll.Intn(4)))(b)
		case 4:
			b[min(20, len(b)-1)+roll.Intn(max(len(b)-20, 1))] = []byte{0, 1, 2, 3, 0x83}[roll.Intn(5)]
		case 5:
			b[at] = byte(roll.Int())
		case 6:
			b[at] ^= 1 << roll.Intn(8)
		case 7:
			b = append(b, some(roll, roll.Intn(20))...)
		case 8:
			b = b[:max(20, at)]
		}
	}
	if roll.Intn(4) > 0 {
		return resealed(b)
	}
	return b
}

func TestP3_3AgainstTheModel(t *testing.T) {
	roll := dice()
	seen := map[api.Errno]int{}
	for range 60000 {
		b := modelBuild(somePacket(roll))
		checkParse(t, b)
		b = spoilt(roll, b)
		checkParse(t, b)
		_, err := Parse(b)
		seen[err]++
	}
	for _, err := range []api.Errno{api.OK, api.ErrShort, api.ErrVersion, api.ErrHead, api.ErrSum, api.ErrOpts, api.ErrOff} {
		if seen[err] < 100 {
			t.Errorf("the test's own bytes came to error %d only %d times", err, seen[err])
		}
	}
}

func TestP3_9DamageIsTold(t *testing.T) {
	roll := dice()
	packets := [][]byte{unhex(plainBytes), unhex(optionsBytes), unhex(zeroBytes)}
	for range 500 {
		packets = append(packets, modelBuild(somePacket(roll)))
	}
	for _, b := range packets {
		b = append(b, some(roll, roll.Intn(3)*70)...)
		size := 4 * int(b[0]%16)
		for bit := range 8 * size {
			if bit >= 4 && bit < 8 {
				continue // the header's length
			}
			broken := turn(b, false, func(b []byte) { b[bit/8] ^= 0x80 >> (bit % 8) })
			checkParse(t, broken)
			if p, err := Parse(broken); err == api.OK {
				t.Errorf("P3.9: Parse(%x) with bit %d turned = %v", b, bit, p)
			}
		}
		whole, _ := Parse(b)
		for bit := range 8 * len(whole.Body) {
			broken := turn(b, false, func(b []byte) { b[size+bit/8] ^= 0x80 >> (bit % 8) })
			want := api.Packet{Head: whole.Head, Body: broken[size : size+len(whole.Body)]}
			if p, err := Parse(broken); err != api.OK || !samePacket(p, want) {
				t.Errorf("P3.9: Parse(%x) with bit %d of the body turned = %v, %d", b, bit, p, err)
			}
		}
	}
}

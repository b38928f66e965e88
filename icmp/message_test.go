package icmp

import (
	"bytes"
	"encoding/binary"
	"slices"
	"testing"

	"weft/api"
	"weft/ip4"
)

func TestP6_1Examples(t *testing.T) {
	for _, c := range []struct {
		b    string
		want api.Control
		err  api.Errno
	}{
		{"0800339a 00010002 616263", api.Control{Type: 8, Rest: 65538, Body: []byte("abc")}, api.OK},
		{"00000000 00000000", api.Control{}, api.ErrSum},
		{"0000ffff 00000000", api.Control{}, api.OK},
		{"0000ffff 000000", api.Control{}, api.ErrShort},
		{"", api.Control{}, api.ErrShort},
		{"ff00 00ff 00000000", api.Control{Type: 255}, api.OK},
		{"0102 ccf3 03040506 2a", api.Control{Type: 1, Code: 2, Rest: 0x03040506, Body: []byte{42}}, api.OK},
	} {
		if got, err := Parse(unhex(c.b)); err != c.err || !sameControl(got, c.want) {
			t.Errorf("P6.1: Parse(%s) = %v, %d, want %v, %d", c.b, got, err, c.want, c.err)
		}
		checkParse(t, unhex(c.b))
	}
}

// sealed is n bytes of a message with the right sum.
func sealed(n int) []byte {
	b := run(n)
	binary.BigEndian.PutUint16(b[2:], 0)
	binary.BigEndian.PutUint16(b[2:], ip4.Sum(b))
	return b
}

func TestP6_1Lengths(t *testing.T) {
	isErr(t, "P6.1: nil", checkParse(t, nil), api.ErrShort)
	for n := range 20 {
		want := api.OK
		if n < 8 {
			want = api.ErrShort
		}
		if n > 3 {
			isErr(t, "P6.1: a right sum", checkParse(t, sealed(n)), want)
		}
		if n < 8 {
			isErr(t, "P6.1: a wrong sum", checkParse(t, make([]byte, n)), api.ErrShort)
		}
	}
	for n, want := range map[int]api.Errno{
		65507: api.OK, 65514: api.OK, 65515: api.OK, 65516: api.ErrBig, 65517: api.ErrBig,
		65535: api.ErrBig, 65536: api.ErrBig, 65536 + 8: api.ErrBig, 1 << 20: api.ErrBig,
	} {
		isErr(t, "P6.1: a right sum", checkParse(t, sealed(n)), want)
		if want == api.OK {
			want = api.ErrSum
		}
		isErr(t, "P6.1: a wrong sum", checkParse(t, make([]byte, n)), want)
	}
}

// Every one of the sum's values but the right ones is refused.
func TestP6_1Sums(t *testing.T) {
	for _, text := range []string{"0800 0000 00010002 616263", "0000 0000 00000000", "ffff 0000 00000000", "0000 0000 fff00000 000f"} {
		b := unhex(text)
		right := ip4.Sum(b)
		for field := range 1 << 16 {
			binary.BigEndian.PutUint16(b[2:], uint16(field))
			taken := uint16(field) == right || right == 0 && field == 65535
			if _, err := Parse(b); (err == api.OK) != taken || err != api.OK && err != api.ErrSum {
				t.Fatalf("P6.1: Parse(%x) = %d", b, err)
			}
		}
	}
}

// One turned bit, wherever it is, is told.
func TestP6_1TurnedBits(t *testing.T) {
	for _, n := range []int{8, 9, 12, 33} {
		b := sealed(n)
		for i := range 8 * n {
			b[i/8] ^= 1 << (i % 8)
			isErr(t, "P6.1: a turned bit", checkParse(t, b), api.ErrSum)
			b[i/8] ^= 1 << (i % 8)
		}
	}
}

func TestP6_1AnyTypeAndCode(t *testing.T) {
	for typ := range 256 {
		for code := range 256 {
			b := built(byte(typ), byte(code), 0x01020304, []byte{9})
			if c, err := Parse(b); err != api.OK || int(c.Type) != typ || int(c.Code) != code || c.Rest != 0x01020304 || !bytes.Equal(c.Body, []byte{9}) {
				t.Fatalf("P6.1: Parse(%x) = %v, %d", b, c, err)
			}
		}
	}
}

func TestP6_2Examples(t *testing.T) {
	for _, c := range []struct {
		c    api.Control
		want string
	}{
		{api.Control{Type: 8, Rest: 65538, Body: []byte("abc")}, "0800339a 00010002 616263"},
		{api.Control{Rest: 65538, Body: []byte("abc")}, "00003b9a 00010002 616263"},
		{api.Control{}, "0000ffff 00000000"},
		{api.Control{Body: []byte{}}, "0000ffff 00000000"},
		{api.Control{Type: 255, Code: 255}, "ffff0000 00000000"},
		{api.Control{Type: 1, Code: 2, Rest: 0x03040506, Body: []byte{42}}, "0102ccf3 03040506 2a"},
		{api.Control{Rest: 1<<32 - 1}, "00000000 ffffffff"},
	} {
		if b, err := Build(c.c); err != api.OK || !bytes.Equal(b, unhex(c.want)) {
			t.Errorf("P6.2: Build(%v) = %x, %d, want %s", c.c, b, err, c.want)
		}
	}
}

func TestP6_2Lengths(t *testing.T) {
	for n, want := range map[int]api.Errno{
		0: api.OK, 1: api.OK, 65499: api.OK, 65506: api.OK, 65507: api.OK, 65508: api.ErrBig,
		65515: api.ErrBig, 65535: api.ErrBig, 65536: api.ErrBig, 1 << 20: api.ErrBig,
	} {
		c := api.Control{Type: 8, Code: 3, Rest: 1 << 31, Body: run(n)}
		checkBuild(t, c)
		b, err := Build(c)
		isErr(t, "P6.2: the length", err, want)
		if want == api.OK && len(b) != 8+n {
			t.Errorf("P6.2: a body of %d makes %d bytes", n, len(b))
		}
	}
}

func TestP6_2ThereAndBack(t *testing.T) {
	roll := dice()
	for range 5000 {
		c := api.Control{Type: byte(roll.Int()), Code: byte(roll.Int()), Rest: roll.Uint32(), Body: some(roll, roll.Intn(40))}
		checkBuild(t, c)
		b, _ := Build(c)
		if back, err := Parse(b); err != api.OK || !sameControl(back, c) {
			t.Fatalf("P6.2: Parse of Build(%v) = %v, %d", c, back, err)
		}
	}
	for _, n := range []int{0, 1, 65506, 65507} {
		c := api.Control{Type: 3, Rest: 5, Body: run(n)}
		b, _ := Build(c)
		if back, err := Parse(b); err != api.OK || !sameControl(back, c) {
			t.Errorf("P6.2: Parse of Build, a body of %d: %d", n, err)
		}
	}
}

// Of a message whose right sum is 0 the field may be 0 or 65535, and Build makes 0 of both.
func TestP6_2BackAndThere(t *testing.T) {
	roll := dice()
	zeros := 0
	for range 20000 {
		b := some(roll, 8+roll.Intn(6))
		binary.BigEndian.PutUint16(b[2:], 0)
		if roll.Intn(2) == 0 {
			binary.BigEndian.PutUint16(b[4:], 0)
			binary.BigEndian.PutUint16(b[4:], ip4.Sum(b))
		}
		right := ip4.Sum(b)
		binary.BigEndian.PutUint16(b[2:], right)
		want := slices.Clone(b)
		if right == 0 {
			zeros++
			binary.BigEndian.PutUint16(b[2:], 65535)
		}
		c, err := Parse(b)
		if err != api.OK {
			t.Fatalf("P6.1: Parse(%x): %d", b, err)
		}
		if back, err := Build(c); err != api.OK || !bytes.Equal(back, want) {
			t.Fatalf("P6.2: Build of Parse(%x) = %x, %d, want %x", b, back, err, want)
		}
	}
	if zeros < 1000 {
		t.Errorf("the test's own bytes had the sum 0 only %d times", zeros)
	}
}

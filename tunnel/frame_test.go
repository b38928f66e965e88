package tunnel

import (
	"bytes"
	"testing"

	"weft/api"
)

func ones() api.MAC { return api.MAC{1, 1, 1, 1, 1, 1} }
func twos() api.MAC { return api.MAC{2, 2, 2, 2, 2, 2} }

func TestP7_1Examples(t *testing.T) {
	for _, c := range []struct {
		b    string
		want api.Frame
		err  api.Errno
	}{
		{"010101010101 020202020202 0800", api.Frame{Dst: ones(), Src: twos(), Type: 0x0800}, api.OK},
		{"010101010101 020202020202 0800 0908", api.Frame{Dst: ones(), Src: twos(), Type: 0x0800, Body: []byte{9, 8}}, api.OK},
		{"010203040506 0708090a0b0c 0d0e 0f", api.Frame{Dst: api.MAC{1, 2, 3, 4, 5, 6}, Src: api.MAC{7, 8, 9, 10, 11, 12}, Type: 0x0d0e, Body: []byte{15}}, api.OK},
		{"010101010101 020202020202 08", api.Frame{}, api.ErrFrame},
		{"", api.Frame{}, api.ErrFrame},
		{"010101010101 020202020202 05ff", api.Frame{}, api.ErrFrame},
		{"010101010101 020202020202 8100", api.Frame{}, api.ErrVlan},
		{"010101010101 020202020202 88a8", api.Frame{}, api.ErrVlan},
		{"000000000000 000000000000 0600", api.Frame{Type: 0x0600}, api.OK},
	} {
		if f, err := ParseFrame(unhex(c.b)); err != c.err || !sameFrame(f, c.want) {
			t.Errorf("P7.1: ParseFrame(%s) = %s, %d, want %s, %d", c.b, brief(f), err, brief(c.want), c.err)
		}
		checkParseFrame(t, unhex(c.b))
	}
}

func TestP7_1Lengths(t *testing.T) {
	_, err := checkParseFrame(t, nil)
	isErr(t, "P7.1: nil", err, api.ErrFrame)
	for _, n := range edgeSizes() {
		for _, typ := range []uint16{0x0800, 0x05ff, 0x8100} {
			b := run(max(n, 14))
			b = set16(b, 12, typ)[:n]
			want := modelType(typ)
			if n < 14 {
				want = api.ErrFrame
			}
			if n >= 65500 {
				want = api.ErrLong
			}
			f, err := ParseFrame(b)
			isErr(t, "P7.1: the length", err, want)
			if err == api.OK && len(f.Body) != n-14 {
				t.Errorf("P7.1: a frame of %d bytes has a body of %d", n, len(f.Body))
			}
			checkParseFrame(t, b)
		}
	}
}

// Every type, with both calls.
func TestP7_1EveryType(t *testing.T) {
	b := unhex("010101010101 020202020202 0000 77")
	for i := range 1 << 16 {
		typ := uint16(i)
		b[12], b[13] = byte(i/256), byte(i%256)
		f, err := checkParseFrame(t, b)
		if err == api.OK && f.Type != typ {
			t.Fatalf("P7.1: the type %#x is read as %#x", typ, f.Type)
		}
		built, err := checkBuildFrame(t, api.Frame{Dst: ones(), Src: twos(), Type: typ, Body: []byte{0x77}})
		if err == api.OK && !bytes.Equal(built, b) {
			t.Fatalf("P7.2: the type %#x is written as %x", typ, built)
		}
	}
	for typ, want := range map[uint16]api.Errno{
		0: api.ErrFrame, 1500: api.ErrFrame, 0x05ff: api.ErrFrame, 0x0600: api.OK, 0x0601: api.OK, 0x0800: api.OK, 0x0806: api.OK,
		0x80ff: api.OK, 0x8100: api.ErrVlan, 0x8101: api.OK, 0x86dd: api.OK, 0x88a7: api.OK, 0x88a8: api.ErrVlan, 0x88a9: api.OK, 0xffff: api.OK,
	} {
		_, err := ParseFrame(set16(b, 12, typ))
		isErr(t, "P7.1: the type", err, want)
		_, err = BuildFrame(api.Frame{Type: typ})
		isErr(t, "P7.2: the type", err, want)
	}
}

func TestP7_2Examples(t *testing.T) {
	for _, c := range []struct {
		f    api.Frame
		want string
		err  api.Errno
	}{
		{api.Frame{Dst: ones(), Src: twos(), Type: 0x0800}, "010101010101 020202020202 0800", api.OK},
		{api.Frame{Dst: ones(), Src: twos(), Type: 0x0800, Body: []byte{9, 8}}, "010101010101 020202020202 0800 0908", api.OK},
		{api.Frame{Dst: api.MAC{1, 2, 3, 4, 5, 6}, Src: api.MAC{7, 8, 9, 10, 11, 12}, Type: 0x0d0e, Body: []byte{}}, "010203040506 0708090a0b0c 0d0e", api.OK},
		{api.Frame{}, "", api.ErrFrame},
		{api.Frame{Type: 0x8100, Body: []byte{1}}, "", api.ErrVlan},
	} {
		if b, err := BuildFrame(c.f); err != c.err || !bytes.Equal(b, unhex(c.want)) {
			t.Errorf("P7.2: BuildFrame(%s) = %x, %d, want %s, %d", brief(c.f), b, err, c.want, c.err)
		}
	}
}

// A long body is told ahead of a bad type.
func TestP7_2Lengths(t *testing.T) {
	for _, n := range edgeSizes() {
		for _, typ := range []uint16{0x0800, 0x05ff, 0x8100, 0x88a8} {
			want := modelType(typ)
			if n > 65485 {
				want = api.ErrLong
			}
			f := api.Frame{Dst: ones(), Src: twos(), Type: typ, Body: run(n)}
			b, err := BuildFrame(f)
			isErr(t, "P7.2: the length", err, want)
			if err == api.OK && len(b) != 14+n {
				t.Errorf("P7.2: a body of %d makes %d bytes", n, len(b))
			}
			checkBuildFrame(t, f)
		}
	}
}

func TestP7_2ThereAndBack(t *testing.T) {
	roll := dice()
	taken := 0
	for range 10000 {
		f := someFrame(roll)
		if b, err := checkBuildFrame(t, f); err == api.OK {
			taken++
			if back, err := ParseFrame(b); err != api.OK || !sameFrame(back, f) {
				t.Fatalf("P7.2: ParseFrame of BuildFrame(%s) = %s, %d", brief(f), brief(back), err)
			}
		}
		b := some(roll, roll.Intn(40))
		if f, err := checkParseFrame(t, b); err == api.OK {
			if back, err := BuildFrame(f); err != api.OK || !bytes.Equal(back, b) {
				t.Fatalf("P7.2: BuildFrame of ParseFrame(%x) = %x, %d", b, back, err)
			}
		}
	}
	if taken < 5000 {
		t.Errorf("the test's own frames were taken only %d times", taken)
	}
}

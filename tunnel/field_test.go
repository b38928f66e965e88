package tunnel

import (
	"bytes"
	"testing"

	"weft/api"
)

// The highest byte stands first, whatever the field's width and the number's kind.
func TestP0_7Fields(t *testing.T) {
	b := unhex("0102030405060708")
	if v := read[uint8](b[:1]); v != 1 {
		t.Errorf("P0.7: one byte: %#x", v)
	}
	if v := read[uint16](b[:2]); v != 0x0102 {
		t.Errorf("P0.7: two bytes: %#x", v)
	}
	if v := read[uint32](b[:3]); v != 0x010203 {
		t.Errorf("P0.7: three bytes: %#x", v)
	}
	if v := read[api.Addr](b[:4]); v != 0x01020304 {
		t.Errorf("P0.7: four bytes: %#x", v)
	}
	if v := read[uint64](b); v != 0x0102030405060708 {
		t.Errorf("P0.7: eight bytes: %#x", v)
	}
	if v := read[uint](b[5:]); v != 0x060708 {
		t.Errorf("P0.7: the last three bytes: %#x", v)
	}
}

func TestP0_7WrittenFields(t *testing.T) {
	b := make([]byte, 18)
	write(b[0:1], uint8(1))
	write(b[1:3], uint16(0x0203))
	write(b[3:6], uint32(0x040506))
	write(b[6:10], api.Addr(0x0708090a))
	write(b[10:18], uint64(0x0b0c0d0e0f101112))
	if !bytes.Equal(b, run(18)) {
		t.Errorf("P0.7: %x", b)
	}
	write(b[0:4], uint8(255))
	if !bytes.Equal(b[:5], unhex("000000ff05")) {
		t.Errorf("P0.7: a small number in a wide field: %x", b)
	}
}

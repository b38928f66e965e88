package journal

import (
	"hash/crc32"
	"testing"
)

func TestP12_3Sum(t *testing.T) {
	for _, c := range []struct {
		text string
		want uint32
	}{
		{"", 0},
		{"123456789", 0xcbf43926},
		{"ab", 0x9e83486d},
		{"c", 0x06b9df6f},
	} {
		if got := sumOf([]byte(c.text)); got != c.want {
			t.Errorf("the sum of %q is %#x, want %#x", c.text, got, c.want)
		}
	}
	if got := sumOf(nil); got != 0 {
		t.Errorf("the sum of nothing is %#x", got)
	}
}

// Each byte alone, and behind another, so that all of the table is asked.
func TestP12_3SumOfEachByte(t *testing.T) {
	for x := range 256 {
		for _, b := range [][]byte{{byte(x)}, {0xa5, byte(x)}, {byte(x), 0, 0, 0, 0, byte(x)}} {
			if got, want := sumOf(b), crc32.ChecksumIEEE(b); got != want {
				t.Errorf("the sum of %x is %#x, want %#x", b, got, want)
			}
		}
	}
}

func TestP12_3SumOfMany(t *testing.T) {
	r := dice()
	for n := range 300 {
		b := make([]byte, n)
		r.Read(b)
		if got, want := sumOf(b), crc32.ChecksumIEEE(b); got != want {
			t.Errorf("the sum of %d bytes is %#x, want %#x", n, got, want)
		}
	}
}

// A record's sum, and the sums of its frame, lie high byte first on the disk.
func TestP0_7Numbers(t *testing.T) {
	b := fresh(t).add([]byte("123456789"))
	want := joined(
		unhex("77656674 00000001 00000000 46525b30"),
		unhex("00000009 cbf43926"), words(crc32.ChecksumIEEE(unhex("00000001 00000000 00000009 cbf43926"))),
		[]byte("123456789"),
	)
	b.lies(1000, want, nil)
}

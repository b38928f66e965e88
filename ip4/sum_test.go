package ip4

import (
	"encoding/binary"
	"math/big"
	"slices"
	"testing"
)

func checkSum(t *testing.T, want uint16, parts ...[]byte) {
	t.Helper()
	if got := Sum(parts...); got != want {
		t.Errorf("P3.1: Sum of %d parts (%.80x) = %d, want %d", len(parts), parts, got, want)
	}
}

func TestP3_1Sum(t *testing.T) {
	checkSum(t, 65535)
	checkSum(t, 65535, nil)
	checkSum(t, 65535, []byte{})
	checkSum(t, 65535, []byte{0})
	checkSum(t, 65535, []byte{0, 0}, nil, []byte{0})
	checkSum(t, 65534, []byte{0, 1})
	checkSum(t, 65279, []byte{1})
	checkSum(t, 64509, []byte{1}, []byte{2, 3})
	checkSum(t, 64509, []byte{1, 2, 3})
	checkSum(t, 64509, []byte{1}, nil, []byte{2}, []byte{}, []byte{3}, nil)
	checkSum(t, 65528, []byte{0}, []byte{7})
	// The example of RFC 1071, section 3.
	checkSum(t, 65535-0xddf2, unhex("0001 f203 f4f5 f6f7"))
}

func TestP3_1MultiplesOf65535(t *testing.T) {
	checkSum(t, 0, unhex("ffff"))
	checkSum(t, 0, unhex("ffff ffff ffff"))
	checkSum(t, 0, unhex("fffe 0001"))
	checkSum(t, 0, unhex("8000 7fff ffff"))
	checkSum(t, 0, []byte{0xff}, []byte{0xff})
	checkSum(t, 65534, unhex("ffff 0001"))
	checkSum(t, 65534, unhex("8000 8000"))
	checkSum(t, 1, unhex("fffe"))
	checkSum(t, 1, unhex("ffff fffe"))
}

func TestP3_1IsExact(t *testing.T) {
	// More words than 32 bits can sum without a loss.
	long := fill(1<<19, 0xff)
	checkSum(t, 0, long)
	checkSum(t, 65535-7, long, []byte{0, 7})
	checkSum(t, modelSum(joined(long, long[1:], []byte{3})), long, long[1:], []byte{3})
	many := make([][]byte, 1<<18+1)
	for i := range many {
		many[i] = []byte{0xff}
	}
	checkSum(t, 255, many...)
	checkSum(t, 0, many[1:]...)
}

func TestP3_1PartsAreJoined(t *testing.T) {
	roll := dice()
	b := some(roll, 9)
	for i := range len(b) + 1 {
		for j := i; j <= len(b); j++ {
			for k := j; k <= len(b); k++ {
				checkSum(t, modelSum(b), b[:i], b[i:j], b[j:k], b[k:])
				checkSum(t, modelSum(b[:k]), b[:i], b[i:j], b[j:k])
			}
		}
	}
	for range 2000 {
		var parts [][]byte
		for range roll.Intn(6) {
			part := some(roll, roll.Intn(5))
			if roll.Intn(3) == 0 {
				part = fill(len(part), byte(roll.Intn(2)*255))
			}
			parts = append(parts, part)
		}
		checkSum(t, modelSum(slices.Concat(parts...)), parts...)
	}
}

func modelAdjust(sum, old, next uint16) uint16 {
	return 65535 - fold(big.NewInt(65535-int64(sum)+65535-int64(old)+int64(next)))
}

func TestP3_2Adjust(t *testing.T) {
	for _, c := range [][4]uint16{
		{4660, 16390, 16134, 4916},
		{65528, 7, 0, 0},
		{65535, 65535, 0, 65535},
		{65535, 0, 0, 0},
		{0, 0, 0, 0},
		{0, 0, 65535, 0},
		{0, 65535, 0, 0},
		{0, 1, 2, 65534},
		{65535, 65535, 65535, 0},
		{65535, 65535, 1, 65534},
		{65534, 65535, 0, 65534},
	} {
		if got := Adjust(c[0], c[1], c[2]); got != c[3] || got != modelAdjust(c[0], c[1], c[2]) {
			t.Errorf("P3.2: Adjust(%d, %d, %d) = %d, want %d", c[0], c[1], c[2], got, c[3])
		}
	}
	edges := []uint16{0, 1, 2, 7, 255, 256, 32767, 32768, 65528, 65533, 65534, 65535}
	for _, sum := range edges {
		for _, old := range edges {
			for _, next := range edges {
				if got, want := Adjust(sum, old, next), modelAdjust(sum, old, next); got != want {
					t.Errorf("P3.2: Adjust(%d, %d, %d) = %d, want %d", sum, old, next, got, want)
				}
			}
		}
	}
}

func TestP3_2AdjustIsTheSumAnew(t *testing.T) {
	roll := dice()
	for range 5000 {
		b := some(roll, 2+roll.Intn(7))
		if roll.Intn(3) == 0 {
			clear(b)
		}
		at := 2 * roll.Intn(len(b)/2)
		old, next := binary.BigEndian.Uint16(b[at:]), uint16([]int{0, 1, 65534, 65535, roll.Int()}[roll.Intn(5)])
		before := Sum(b)
		binary.BigEndian.PutUint16(b[at:], next)
		want := Sum(b)
		if allZero(b) {
			want = 0
		}
		if got := Adjust(before, old, next); got != want {
			t.Errorf("P3.2: Adjust(%d, %d, %d) = %d, the bytes are %x then, want %d", before, old, next, got, b, want)
		}
	}
}

package tunnel

import (
	"bytes"
	"testing"

	"weft/api"
)

func TestP7_3Examples(t *testing.T) {
	for _, c := range []struct {
		src, dst api.Addr
		b        string
		want     api.Datagram
		err      api.Errno
	}{
		{0, 0, "0001 0002 0008 0000", api.Datagram{SrcPort: 1, DstPort: 2}, api.OK},
		{0, 0, "0001 0002 0008 ffdb", api.Datagram{SrcPort: 1, DstPort: 2}, api.OK},
		{0, 0, "0001 0002 0008 ffdc", api.Datagram{}, api.ErrUSum},
		{0, 0, "0001 0002 0008 ffda", api.Datagram{}, api.ErrUSum},
		{0, 0, "0001 0002 0008 ffff", api.Datagram{}, api.ErrUSum},
		{0, 0, "0001 0002 0008 0000 77", api.Datagram{SrcPort: 1, DstPort: 2}, api.OK},
		{0, 0, "0001 0002 0008 ffdb 77", api.Datagram{SrcPort: 1, DstPort: 2}, api.OK},
		{0, 0, "0001 0002 0009 0000 77", api.Datagram{SrcPort: 1, DstPort: 2, Body: []byte{0x77}}, api.OK},
		{0, 0, "0001 0002 0009 ffdb 77", api.Datagram{}, api.ErrUSum},
		{0, 0, "0001 0002 0009 88d9 77", api.Datagram{SrcPort: 1, DstPort: 2, Body: []byte{0x77}}, api.OK},
		{0, 0, "0001 0002 0007 0000", api.Datagram{}, api.ErrUDP},
		{0, 0, "0001 0002 0000 0000", api.Datagram{}, api.ErrUDP},
		{0, 0, "0001 0002 0009 0000", api.Datagram{}, api.ErrUDP},
		{0, 0, "0001 0002 0008 00", api.Datagram{}, api.ErrUDP},
		{0, 0, "", api.Datagram{}, api.ErrUDP},
		{0, 0, "ffde 0000 0008 ffff", api.Datagram{SrcPort: 0xffde}, api.OK},
		{0, 0, "ffde 0000 0008 0000", api.Datagram{SrcPort: 0xffde}, api.OK},
		{0x0a000001, 0, "0001 0002 0008 f5da", api.Datagram{SrcPort: 1, DstPort: 2}, api.OK},
		{0, 0x0a000001, "0001 0002 0008 f5da", api.Datagram{SrcPort: 1, DstPort: 2}, api.OK},
		{0, 0, "0001 0002 0008 f5da", api.Datagram{}, api.ErrUSum},
	} {
		if d, err := ParseUDP(c.src, c.dst, unhex(c.b)); err != c.err || !sameDatagram(d, c.want) {
			t.Errorf("P7.3: ParseUDP(%#x, %#x, %s) = %v, %d, want %v, %d", c.src, c.dst, c.b, d, err, c.want, c.err)
		}
		checkParseUDP(t, c.src, c.dst, unhex(c.b))
	}
}

// Bytes of every length around the bounds, with length fields of the first, the last, and those beside them.
func TestP7_3Lengths(t *testing.T) {
	_, err := checkParseUDP(t, here, there, nil)
	isErr(t, "P7.3: nil", err, api.ErrUDP)
	for _, n := range edgeSizes() {
		for _, length := range []int{0, 1, 7, 8, 9, n - 1, n, n + 1, 32767, 32768, 65534, 65535} {
			if length < 0 || length > 65535 {
				continue
			}
			b := set16(set16(run(max(n, 8)), 4, uint16(length)), 6, 0)[:n]
			want := api.OK
			if n < 8 || length < 8 || length > n {
				want = api.ErrUDP
			}
			if n > 65535 {
				want = api.ErrLong
			}
			d, err := ParseUDP(here, there, b)
			isErr(t, "P7.3: the length", err, want)
			if err == api.OK && (len(d.Body) != length-8 || !bytes.Equal(d.Body, b[8:length])) {
				t.Errorf("P7.3: a length of %d of %d bytes makes a body of %d", length, n, len(d.Body))
			}
			checkParseUDP(t, here, there, b)
		}
	}
}

func TestP7_3EveryLength(t *testing.T) {
	for _, n := range []int{8, 9, 300, 65534, 65535} {
		b := make([]byte, n)
		for length := range 1 << 16 {
			b[4], b[5] = byte(length/256), byte(length%256)
			d, err := ParseUDP(0, 0, b)
			if taken := length >= 8 && length <= n; taken != (err == api.OK) || taken && len(d.Body) != length-8 || !taken && err != api.ErrUDP {
				t.Fatalf("P7.3: a length of %d of %d bytes: a body of %d, %d", length, n, len(d.Body), err)
			}
		}
	}
}

// Of all values of the sum's field 0 and the right ones alone are taken; what stands behind the length counts nowhere.
func TestP7_3Sums(t *testing.T) {
	for _, c := range []struct {
		src, dst api.Addr
		b        string
		right    int
	}{
		{0, 0, "0001 0002 0008 0000", 0xffdb},
		{0, 0, "ffde 0000 0008 0000", 0xffff},
		{0, 0, "ffdd 0000 0008 0000", 0x0001},
		{0, 0, "ffdf 0000 0008 0000", 0xfffe},
		{0x0a000001, 0x0a000001, "0005 0006 0009 0000 ab", int(^uint16(0x0a01 + 0x0a01 + 17 + 9 + 5 + 6 + 9 + 0xab00))},
		{0xffffffff, 0xffffffff, "0001 0002 0008 0000", 0xffdb},
	} {
		for _, behind := range []string{"", "77", "ffff", "0102030405"} {
			b := unhex(c.b + behind)
			for field := range 1 << 16 {
				b[6], b[7] = byte(field/256), byte(field%256)
				want := api.ErrUSum
				if field == 0 || field == c.right {
					want = api.OK
				}
				if _, err := ParseUDP(c.src, c.dst, b); err != want {
					t.Fatalf("P7.3: ParseUDP(%#x, %#x, %x): %d, want %d", c.src, c.dst, b, err, want)
				}
			}
		}
	}
}

// A length that may not be is told ahead of a sum that is wrong, too many bytes ahead of both.
func TestP7_3OrderOfErrors(t *testing.T) {
	for text, want := range map[string]api.Errno{
		"0001 0002 0007 0001":    api.ErrUDP,
		"0001 0002 0009 0001":    api.ErrUDP,
		"0001 0002 0008 0001":    api.ErrUSum,
		"0001 0002 0009 0001 00": api.ErrUSum,
	} {
		_, err := checkParseUDP(t, 0, 0, unhex(text))
		isErr(t, "P7.3: "+text, err, want)
		_, err = checkParseUDP(t, 0, 0, joined(unhex(text), make([]byte, 65536)))
		isErr(t, "P7.3: "+text+" and many more", err, api.ErrLong)
	}
}

// One turned bit of these datagrams or of their addresses, wherever it is, is told.
func TestP7_3TurnedBits(t *testing.T) {
	for _, n := range []int{0, 1, 2, 9} {
		b, _ := modelBuildUDP(here, there, api.Datagram{SrcPort: 50000, DstPort: 8472, Body: run(n)}, true)
		for i := range 8 * len(b) {
			b[i/8] ^= 1 << (i % 8)
			_, err := checkParseUDP(t, here, there, b)
			if err == api.OK {
				t.Errorf("P7.3: the bit %d of %x is not told", i, b)
			}
			b[i/8] ^= 1 << (i % 8)
		}
		for i := range 32 {
			_, err := checkParseUDP(t, here^1<<i, there, b)
			isErr(t, "P7.3: another source", err, api.ErrUSum)
			_, err = checkParseUDP(t, here, there^1<<i, b)
			isErr(t, "P7.3: another destination", err, api.ErrUSum)
		}
		_, err := checkParseUDP(t, there, here, b)
		isErr(t, "P7.3: both turned round", err, api.OK)
	}
}

func TestP7_4Examples(t *testing.T) {
	for _, c := range []struct {
		src, dst api.Addr
		d        api.Datagram
		sum      bool
		want     string
	}{
		{0, 0, api.Datagram{SrcPort: 1, DstPort: 2}, false, "0001 0002 0008 0000"},
		{0, 0, api.Datagram{SrcPort: 1, DstPort: 2}, true, "0001 0002 0008 ffdb"},
		{0, 0, api.Datagram{SrcPort: 1, DstPort: 2, Body: []byte{}}, true, "0001 0002 0008 ffdb"},
		{0, 0, api.Datagram{SrcPort: 1, DstPort: 2, Body: []byte{0x77}}, true, "0001 0002 0009 88d9 77"},
		{here, there, api.Datagram{SrcPort: 1, DstPort: 2}, false, "0001 0002 0008 0000"},
		{0x0a000001, 0, api.Datagram{SrcPort: 1, DstPort: 2}, true, "0001 0002 0008 f5da"},
		{0, 0x0a000001, api.Datagram{SrcPort: 1, DstPort: 2}, true, "0001 0002 0008 f5da"},
		{0, 0, api.Datagram{}, false, "0000 0000 0008 0000"},
		{0, 0, api.Datagram{}, true, "0000 0000 0008 ffde"},
		{0, 0, api.Datagram{SrcPort: 0xffde}, true, "ffde 0000 0008 ffff"},
		{0, 0, api.Datagram{SrcPort: 0xffde}, false, "ffde 0000 0008 0000"},
		{0, 0, api.Datagram{DstPort: 0xffde}, true, "0000 ffde 0008 ffff"},
		{0xffffffff, 0xffffffff, api.Datagram{SrcPort: 65535, DstPort: 65535}, true, "ffff ffff 0008 ffde"},
	} {
		if b, err := BuildUDP(c.src, c.dst, c.d, c.sum); err != api.OK || !bytes.Equal(b, unhex(c.want)) {
			t.Errorf("P7.4: BuildUDP(%#x, %#x, %v, %v) = %x, %d, want %s", c.src, c.dst, c.d, c.sum, b, err, c.want)
		}
	}
}

func TestP7_4Lengths(t *testing.T) {
	for _, n := range edgeSizes() {
		for _, sum := range []bool{false, true} {
			want := api.OK
			if n > 65527 {
				want = api.ErrLong
			}
			d := api.Datagram{SrcPort: 65535, DstPort: 1, Body: run(n)}
			b, err := BuildUDP(here, there, d, sum)
			isErr(t, "P7.4: the length", err, want)
			if err == api.OK && len(b) != 8+n {
				t.Errorf("P7.4: a body of %d makes %d bytes", n, len(b))
			}
			checkBuildUDP(t, here, there, d, sum)
		}
	}
}

func TestP7_4EveryPort(t *testing.T) {
	for i := range 1 << 16 {
		d := api.Datagram{SrcPort: uint16(i), DstPort: uint16(65535 - i), Body: []byte{byte(i)}}
		checkBuildUDP(t, here, there, d, i%2 == 0)
	}
}

func TestP7_4Addresses(t *testing.T) {
	for _, src := range edgeAddrs() {
		for _, dst := range edgeAddrs() {
			for n := range 4 {
				b, _ := checkBuildUDP(t, src, dst, api.Datagram{SrcPort: 7, DstPort: 9, Body: run(n)}, true)
				_, err := checkParseUDP(t, src, dst, b)
				isErr(t, "P7.3: what BuildUDP made", err, api.OK)
			}
		}
	}
}

// For each source port there is a word of the body that makes the sum 0: 0xffff is written, and taken back.
func TestP7_4SumsThatComeToZero(t *testing.T) {
	for port := 0; port < 1<<16; port += 17 {
		d := api.Datagram{SrcPort: uint16(port), DstPort: 8472, Body: []byte{0, 0}}
		plain, _ := modelBuildUDP(here, there, d, false)
		d.Body = set16(d.Body, 0, modelSum(joined(modelPseudo(here, there, 10), plain)))
		b, err := checkBuildUDP(t, here, there, d, true)
		if err != api.OK || b[6] != 0xff || b[7] != 0xff {
			t.Fatalf("P7.4: the test's own sum of %x is not 0", b)
		}
		if back, err := ParseUDP(here, there, b); err != api.OK || !sameDatagram(back, d) {
			t.Fatalf("P7.3: ParseUDP(%x) = %v, %d", b, back, err)
		}
	}
}

func TestP7_4ThereAndBack(t *testing.T) {
	roll := dice()
	for range 10000 {
		src, dst := someAddr(roll), someAddr(roll)
		d := api.Datagram{SrcPort: uint16(roll.Int()), DstPort: uint16(roll.Int()), Body: some(roll, roll.Intn(40))}
		b, _ := checkBuildUDP(t, src, dst, d, roll.Intn(2) == 0)
		if back, err := ParseUDP(src, dst, append(b, some(roll, roll.Intn(3))...)); err != api.OK || !sameDatagram(back, d) {
			t.Fatalf("P7.4: ParseUDP of BuildUDP(%v) = %v, %d", d, back, err)
		}
		b[roll.Intn(len(b))] ^= 1 << roll.Intn(8)
		checkParseUDP(t, src, dst, b)
		checkParseUDP(t, src, dst, b[:roll.Intn(len(b))])
	}
	for _, n := range []int{65526, 65527} {
		d := api.Datagram{SrcPort: 3, DstPort: 4, Body: run(n)}
		b, _ := BuildUDP(here, there, d, true)
		if back, err := ParseUDP(here, there, b); err != api.OK || !sameDatagram(back, d) {
			t.Errorf("P7.4: ParseUDP of BuildUDP, a body of %d: %d", n, err)
		}
	}
}

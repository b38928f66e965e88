package ip4

import (
	"bytes"
	"encoding/binary"
	"encoding/hex"
	"math/big"
	"math/rand"
	"slices"
	"strings"
	"testing"

	"weft/api"
)

// dice rolls the same way in every run.
func dice() *rand.Rand {
	return rand.New(rand.NewSource(3))
}

func unhex(s string) []byte {
	b, err := hex.DecodeString(strings.ReplaceAll(s, " ", ""))
	if err != nil {
		panic(err)
	}
	return b
}

func joined(parts ...[]byte) []byte {
	return slices.Concat(parts...)
}

func fill(n int, v byte) []byte {
	return bytes.Repeat([]byte{v}, n)
}

func some(roll *rand.Rand, n int) []byte {
	b := make([]byte, n)
	roll.Read(b)
	return b
}

// fold is S of T, as P3.1 says it, in numbers without an end.
func fold(t *big.Int) uint16 {
	if t.Sign() == 0 {
		return 0
	}
	s := new(big.Int).Sub(t, big.NewInt(1))
	s.Mod(s, big.NewInt(65535))
	return uint16(s.Int64() + 1)
}

// modelSum is P3.1 over bytes that are joined already.
func modelSum(b []byte) uint16 {
	even := append(slices.Clone(b), make([]byte, len(b)%2)...)
	t := new(big.Int)
	for word := range slices.Chunk(even, 2) {
		t.Add(t, new(big.Int).SetBytes(word))
	}
	return 65535 - fold(t)
}

// resealed is the bytes with the right sum over the header that their first byte tells of, as far as there is one.
func resealed(b []byte) []byte {
	b = slices.Clone(b)
	if len(b) < 20 {
		return b
	}
	n := min(max(int(b[0]%16)*4, 20), len(b))
	binary.BigEndian.PutUint16(b[10:], 0)
	binary.BigEndian.PutUint16(b[10:], modelSum(b[:n]))
	return b
}

// modelOptions is the options of an area, No-ops left out, read by recursion.
func modelOptions(area []byte) (options [][]byte, ok bool) {
	if !slices.Contains([]int{0, 4, 8, 12, 16, 20, 24, 28, 32, 36, 40}, len(area)) {
		return nil, false
	}
	return modelRest(area)
}

func modelRest(rest []byte) (options [][]byte, ok bool) {
	switch {
	case len(rest) == 0:
		return nil, true
	case rest[0] == 0:
		return nil, bytes.Equal(rest, make([]byte, len(rest)))
	case rest[0] == 1:
		return modelRest(rest[1:])
	case len(rest) == 1:
		return nil, false
	case rest[1] == 0 || rest[1] == 1 || int(rest[1]) > len(rest):
		return nil, false
	}
	options, ok = modelRest(rest[rest[1]:])
	return append([][]byte{rest[:rest[1]]}, options...), ok
}

// modelPiece is 'a header's piece is in order'.
func modelPiece(off, length int, more bool) bool {
	if off < 0 || off > 65528 || off%8 != 0 || off+length > 65535 {
		return false
	}
	return !(more && (length == 0 || length%8 != 0))
}

// modelParse goes through the ten errors as they are numbered.
func modelParse(b []byte, whole bool) (api.Packet, api.Errno) {
	var none api.Packet
	if len(b) < 20 {
		return none, api.ErrShort
	}
	if b[0] < 0x40 || b[0] > 0x4f {
		return none, api.ErrVersion
	}
	h := 4 * int(b[0]-0x40)
	if h < 20 {
		return none, api.ErrHead
	}
	if len(b) < h {
		return none, api.ErrShort
	}
	l := int(binary.BigEndian.Uint16(b[2:]))
	if l < h {
		return none, api.ErrHead
	}
	if whole && len(b) < l {
		return none, api.ErrShort
	}
	if modelSum(b[:h]) != 0 {
		return none, api.ErrSum
	}
	if b[6] >= 0x80 {
		return none, api.ErrHead
	}
	if _, ok := modelOptions(b[20:h]); !ok {
		return none, api.ErrOpts
	}
	off := 8 * (256*int(b[6]%32) + int(b[7]))
	if !modelPiece(off, l-h, b[6]&0x20 > 0) {
		return none, api.ErrOff
	}
	return api.Packet{Head: api.Head{
		TOS: b[1], ID: binary.BigEndian.Uint16(b[4:]),
		DF: b[6]&0x40 > 0, MF: b[6]&0x20 > 0, Off: off,
		TTL: b[8], Proto: b[9],
		Src: api.Addr(binary.BigEndian.Uint32(b[12:])), Dst: api.Addr(binary.BigEndian.Uint32(b[16:])),
		Opts: b[20:h],
	}, Body: b[h:min(l, len(b))]}, api.OK
}

// modelBuild writes a good packet's bytes from the table.
func modelBuild(p api.Packet) []byte {
	flags := uint16(p.Head.Off / 8)
	if p.Head.DF {
		flags += 0x4000
	}
	if p.Head.MF {
		flags += 0x2000
	}
	b := []byte{0x45 + byte(len(p.Head.Opts)/4), p.Head.TOS}
	b = binary.BigEndian.AppendUint16(b, uint16(20+len(p.Head.Opts)+len(p.Body)))
	b = binary.BigEndian.AppendUint16(b, p.Head.ID)
	b = binary.BigEndian.AppendUint16(b, flags)
	b = append(b, p.Head.TTL, p.Head.Proto, 0, 0)
	b = binary.BigEndian.AppendUint32(b, uint32(p.Head.Src))
	b = binary.BigEndian.AppendUint32(b, uint32(p.Head.Dst))
	return resealed(joined(b, p.Head.Opts, p.Body))
}

func sameHead(a, b api.Head) bool {
	return a.TOS == b.TOS && a.ID == b.ID && a.DF == b.DF && a.MF == b.MF && a.Off == b.Off && a.TTL == b.TTL &&
		a.Proto == b.Proto && a.Src == b.Src && a.Dst == b.Dst && bytes.Equal(a.Opts, b.Opts)
}

func samePacket(a, b api.Packet) bool {
	return sameHead(a.Head, b.Head) && bytes.Equal(a.Body, b.Body)
}

// someOptions is an option area of at most 40 bytes.
func someOptions(roll *rand.Rand) []byte {
	room := 4 * roll.Intn(11)
	var area []byte
	for len(area) < room {
		left := room - len(area)
		switch n := 2 + roll.Intn(12); {
		case roll.Intn(8) == 0:
			return append(area, make([]byte, left)...)
		case n > left || roll.Intn(4) == 0:
			area = append(area, 1)
		default:
			kind := []byte{2, 7, 0x44, 0x7f, 0x80, 0x82, 0x83, 0xff}[roll.Intn(8)]
			area = append(area, joined([]byte{kind, byte(n)}, some(roll, n-2))...)
		}
	}
	return area
}

// somePacket is a packet that Build takes.
func somePacket(roll *rand.Rand) api.Packet {
	p := api.Packet{Head: api.Head{
		TOS: byte(roll.Int()), ID: uint16(roll.Int()), DF: roll.Intn(2) == 0, MF: roll.Intn(2) == 0,
		TTL: byte(roll.Int()), Proto: byte(roll.Int()), Src: api.Addr(roll.Uint32()), Dst: api.Addr(roll.Uint32()),
		Opts: someOptions(roll),
	}}
	size := roll.Intn(40)
	if p.Head.MF {
		size = 8 * (1 + roll.Intn(5))
	}
	p.Body = some(roll, size)
	if roll.Intn(2) == 0 {
		p.Head.Off = 8 * roll.Intn((65535-size)/8+1)
	}
	return p
}

// checkParse holds Parse, Peek and Age of b against the model.
func checkParse(t *testing.T, b []byte) {
	t.Helper()
	want, wantErr := modelParse(b, true)
	if p, err := Parse(b); err != wantErr || !samePacket(p, want) {
		t.Errorf("P3.3: Parse(%.100x) = %.100v, %d, want %.100v, %d", b, p, err, want, wantErr)
	}
	peeked, peekErr := modelParse(b, false)
	if h, body, err := Peek(b); err != peekErr || !sameHead(h, peeked.Head) || !bytes.Equal(body, peeked.Body) {
		t.Errorf("P3.4: Peek(%.100x) = %v, %.100x, %d, want %.100v, %d", b, h, body, err, peeked, peekErr)
	}
	var aged []byte
	if wantErr == api.OK && want.Head.TTL < 2 {
		wantErr = api.ErrAge
	} else if wantErr == api.OK {
		want.Head.TTL--
		aged = modelBuild(want)
	}
	if g, err := Age(b); err != wantErr || !bytes.Equal(g, aged) {
		t.Errorf("P3.7: Age(%.100x) = %.100x, %d, want %.100x, %d", b, g, err, aged, wantErr)
	}
}

// checkRefused holds what the three readers say of b against what is written out by hand.
func checkRefused(t *testing.T, b []byte, parse, peek api.Errno) {
	t.Helper()
	checkParse(t, b)
	if _, err := Parse(b); err != parse {
		t.Errorf("P3.3: Parse(%.100x): %d, want %d", b, err, parse)
	}
	if _, _, err := Peek(b); err != peek {
		t.Errorf("P3.4: Peek(%.100x): %d, want %d", b, err, peek)
	}
	if g, err := Age(b); parse != api.OK && (err != parse || len(g) != 0) {
		t.Errorf("P3.7: Age(%.100x) = %x, %d, want %d", b, g, err, parse)
	}
}

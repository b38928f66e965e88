package nat

import (
	"bytes"
	"encoding/binary"
	"encoding/hex"
	"math"
	"math/rand"
	"strings"
	"testing"

	"weft/api"
	"weft/icmp"
	"weft/ip4"
)

const (
	most  = math.MaxInt
	least = math.MinInt
)

// dice rolls the same way in every run.
func dice() *rand.Rand {
	return rand.New(rand.NewSource(23))
}

func pick[E any](r *rand.Rand, list ...E) E {
	return list[r.Intn(len(list))]
}

func quad(a, b, c, d int) api.Addr {
	return api.Addr(a<<24 | b<<16 | c<<8 | d)
}

// The addresses that the tests speak of most.
var (
	cli  = quad(10, 5, 1, 2)
	web  = quad(10, 5, 2, 2)
	vip  = quad(10, 96, 0, 1)
	gate = quad(10, 5, 2, 1)
	far  = quad(198, 51, 100, 7)
	pub  = quad(192, 0, 2, 10)
)

var (
	protos    = []byte{1, 6, 17}                                                           // those of which packets have tuples
	areas     = [][]byte{nil, hx("01010100"), hx("83040909"), bytes.Repeat([]byte{1}, 40)} // of options
	leastBody = map[byte]int{1: 8, 6: 20, 17: 8}
)

func tup(src, dst api.Addr, proto byte, from, to uint16) api.Tuple {
	return api.Tuple{Src: src, Dst: dst, Proto: proto, SrcPort: from, DstPort: to}
}

func hx(s string) []byte {
	b, err := hex.DecodeString(strings.ReplaceAll(s, " ", ""))
	if err != nil {
		panic(err)
	}
	return b
}

func get(b []byte, at int) uint16 {
	return binary.BigEndian.Uint16(b[at:])
}

func put(b []byte, at int, v uint16) {
	binary.BigEndian.PutUint16(b[at:], v)
}

// counted is n bytes, none of them 0.
func counted(n int) []byte {
	b := make([]byte, n)
	for i := range b {
		b[i] = byte(i%255 + 1)
	}
	return b
}

// sumOf is a checksum by what is left over of the exact sum of words.
func sumOf(b []byte) uint16 {
	if len(b)%2 == 1 {
		b = append(bytes.Clone(b), 0)
	}
	total := 0
	for i := 0; i < len(b); i += 2 {
		total += int(get(b, i))
	}
	switch {
	case total == 0:
		return 65535
	case total%65535 == 0:
		return 0
	}
	return uint16(65535 - total%65535)
}

// wholeSum is the sum over a packet's message as its receiver takes it: 0, if the message's own is right.
func wholeSum(p api.Packet) uint16 {
	if p.Head.Proto == 1 {
		return sumOf(p.Body)
	}
	pseudo := binary.BigEndian.AppendUint32(nil, uint32(p.Head.Src))
	pseudo = binary.BigEndian.AppendUint32(pseudo, uint32(p.Head.Dst))
	pseudo = append(pseudo, 0, p.Head.Proto, byte(len(p.Body)>>8), byte(len(p.Body)))
	return sumOf(append(pseudo, p.Body...))
}

// placeOfSum is where a protocol's messages have their sum.
func placeOfSum(proto byte) int {
	return map[byte]int{1: 2, 6: 16, 17: 6}[proto]
}

func fieldOf(p api.Packet) uint16 {
	return get(p.Body, placeOfSum(p.Head.Proto))
}

// withField is the packet with that in its sum's field.
func withField(p api.Packet, f uint16) api.Packet {
	p.Body = bytes.Clone(p.Body)
	put(p.Body, placeOfSum(p.Head.Proto), f)
	return p
}

// withSum is the packet with its message's right sum.
func withSum(p api.Packet) api.Packet {
	p = withField(p, 0)
	f := wholeSum(p)
	if f == 0 && p.Head.Proto == 17 {
		f = 65535
	}
	return withField(p, f)
}

// of is a packet with a tuple and with the right sum, as short as may be but for the bytes behind; of other protocols these alone.
func of(u api.Tuple, behind ...byte) api.Packet {
	p := api.Packet{Head: api.Head{TTL: 64, Proto: u.Proto, Src: u.Src, Dst: u.Dst}}
	switch u.Proto {
	case 1:
		p.Body = append([]byte{8, 0, 0, 0, byte(u.SrcPort >> 8), byte(u.SrcPort), 0, 1}, behind...)
	case 6:
		p.Body = append(hx("0000 0000 00000001 00000002 5002 ffff 0000 0000"), behind...)
	case 17:
		p.Body = append(hx("0000 0000 0000 0000"), behind...)
		put(p.Body, 4, uint16(len(p.Body)))
	default:
		p.Body = behind
		return p
	}
	if u.Proto != 1 {
		put(p.Body, 0, u.SrcPort)
		put(p.Body, 2, u.DstPort)
	}
	return withSum(p)
}

// anyPacket is a packet with a tuple, all its numbers by dice, and a sum that is right, wrong or at an edge.
func anyPacket(r *rand.Rand) api.Packet {
	u := anyTuple(r, pick(r, protos...))
	behind := make([]byte, pick(r, 0, 0, 1, 2, 3, 7, 8, 20, 400))
	if r.Intn(4) > 0 {
		r.Read(behind)
	}
	p := of(u, behind...)
	p.Head.TOS, p.Head.ID, p.Head.TTL, p.Head.DF = byte(r.Int()), uint16(r.Int()), byte(r.Int()), r.Intn(2) == 0
	p.Head.Opts = pick(r, areas...)
	p.Head.MF = len(p.Body)%8 == 0 && r.Intn(2) == 0
	if u.Proto == 1 && r.Intn(2) == 0 {
		p.Body[0] = 0
		copy(p.Body[6:8], pick(r, "\x00\x00", "\x00\x01"))
		p = withSum(p)
	}
	if r.Intn(2) == 0 {
		p = withField(p, pick(r, 0, 1, 65534, 65535, uint16(r.Int())))
	}
	return p
}

// anyTuple is a tuple of that protocol that a packet may have.
func anyTuple(r *rand.Rand, proto byte) api.Tuple {
	ends := []api.Addr{cli, web, vip, far, pub, gate, 0, 1<<32 - 1, 0xffff, 0xffff0000, api.Addr(r.Uint32())}
	ports := []uint16{0, 1, 80, 8080, 65534, 65535, uint16(r.Int())}
	u := tup(pick(r, ends...), pick(r, ends...), proto, pick(r, ports...), pick(r, ports...))
	if proto == 1 {
		u.DstPort = u.SrcPort
	}
	return u
}

// same tells whether two packets are the same; a nil list is an empty one.
func same(p, q api.Packet) bool {
	return sameHead(p.Head, q.Head) && bytes.Equal(p.Body, q.Body)
}

func sameHead(h, g api.Head) bool {
	if !bytes.Equal(h.Opts, g.Opts) {
		return false
	}
	return h.TOS == g.TOS && h.ID == g.ID && h.DF == g.DF && h.MF == g.MF && h.Off == g.Off && h.TTL == g.TTL && h.Proto == g.Proto && h.Src == g.Src && h.Dst == g.Dst
}

// telling is a fault from far to pub about a packet with the head h and a body of so many bytes as told; behind the quoted header lies q, whichever its length.
func telling(typ, code byte, rest uint32, h api.Head, told int, q []byte) api.Packet {
	whole, err := ip4.Build(api.Packet{Head: h, Body: make([]byte, told)})
	if err != api.OK {
		panic("a test quotes a header that may not be")
	}
	size := len(whole) - told
	body, err := icmp.Build(api.Control{Type: typ, Code: code, Rest: rest, Body: append(whole[:size:size], q...)})
	if err != api.OK {
		panic("a test's fault is too long")
	}
	return api.Packet{Head: api.Head{TOS: 4, ID: 77, DF: true, TTL: 9, Proto: 1, Src: far, Dst: pub}, Body: body}
}

// about is a fault about a packet that has 8 bytes of body at least, with as many of them as are asked for.
func about(p api.Packet, quoted int) api.Packet {
	return telling(3, 3, 0, p.Head, len(p.Body), p.Body[:quoted])
}

// turned asks Turn and the model, which must answer the same.
func turned(t *testing.T, p api.Packet, u api.Tuple) (api.Packet, api.Errno) {
	t.Helper()
	q, err := Turn(p, u)
	want, wantErr := modelTurn(p, u)
	if err != wantErr || !same(q, want) {
		t.Fatalf("P23.1: Turn(%+v, %+v) = %+v, %d, want %+v, %d", p, u, q, err, want, wantErr)
	}
	return q, err
}

// mustTurn is a packet turned, that must be.
func mustTurn(t *testing.T, p api.Packet, u api.Tuple) api.Packet {
	t.Helper()
	q, err := turned(t, p, u)
	if err != api.OK {
		t.Fatalf("P23.1: Turn(%+v, %+v) = %d", p, u, err)
	}
	return q
}

// refuses tells a failure, if a packet is not refused with just that error and nothing beside.
func refuses(t *testing.T, p api.Packet, u api.Tuple, err api.Errno) {
	t.Helper()
	if q, got := turned(t, p, u); got != err || q.Body != nil || q.Head.Opts != nil || !same(q, api.Packet{}) {
		t.Errorf("P23.1: Turn(%+v, %+v) = %+v, %d, want %d", p, u, q, got, err)
	}
}

// turnedFault asks TurnFault and the model, which must answer the same.
func turnedFault(t *testing.T, p api.Packet, src, dst api.Addr, u api.Tuple) (api.Packet, api.Errno) {
	t.Helper()
	q, err := TurnFault(p, src, dst, u)
	want, wantErr := modelTurnFault(p, src, dst, u)
	if err != wantErr || !same(q, want) {
		t.Fatalf("P23.3: TurnFault(%+v, %x, %x, %+v) = %+v, %d, want %+v, %d", p, src, dst, u, q, err, want, wantErr)
	}
	return q, err
}

func mustTurnFault(t *testing.T, p api.Packet, src, dst api.Addr, u api.Tuple) api.Packet {
	t.Helper()
	q, err := turnedFault(t, p, src, dst, u)
	if err != api.OK {
		t.Fatalf("P23.3: TurnFault(%+v, %x, %x, %+v) = %d", p, src, dst, u, err)
	}
	return q
}

func refusesFault(t *testing.T, p api.Packet, u api.Tuple, err api.Errno) {
	t.Helper()
	if q, got := turnedFault(t, p, vip, cli, u); got != err || q.Body != nil || q.Head.Opts != nil || !same(q, api.Packet{}) {
		t.Errorf("P23.3: TurnFault(%+v, .., %+v) = %+v, %d, want %d", p, u, q, got, err)
	}
}

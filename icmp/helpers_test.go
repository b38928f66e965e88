package icmp

import (
	"bytes"
	"encoding/binary"
	"encoding/hex"
	"fmt"
	"math/rand"
	"slices"
	"strings"
	"testing"

	"weft/api"
	"weft/ip4"
)

const (
	sender api.Addr = 10<<24 + 1<<16 + 2<<8 + 3
	target api.Addr = 10<<24 + 2<<16 + 3<<8 + 4
	gate   api.Addr = 10<<24 + 1<<16 + 2<<8 + 1
)

// dice rolls the same way in every run.
func dice() *rand.Rand {
	return rand.New(rand.NewSource(6))
}

func unhex(s string) []byte {
	b, err := hex.DecodeString(strings.ReplaceAll(s, " ", ""))
	if err != nil {
		panic(err)
	}
	return b
}

func fill(n int, v byte) []byte {
	return bytes.Repeat([]byte{v}, n)
}

func some(roll *rand.Rand, n int) []byte {
	b := make([]byte, n)
	roll.Read(b)
	return b
}

// run is 1, 2, 3 and so on.
func run(n int) []byte {
	b := make([]byte, n)
	for i := range b {
		b[i] = byte(i + 1)
	}
	return b
}

// example is the chapter's P.
func example() api.Packet {
	return api.Packet{Head: api.Head{ID: 7, TTL: 1, Proto: 17, Src: sender, Dst: target}, Body: run(10)}
}

// carrying is a packet from sender to target with these bytes as a message.
func carrying(body []byte) api.Packet {
	p := example()
	p.Head.Proto, p.Body = 1, body
	return p
}

// with is the packet, changed.
func with(p api.Packet, change func(p *api.Packet)) api.Packet {
	change(&p)
	return p
}

// edgeAddrs has the first and last address of each class, and their neighbours.
func edgeAddrs() []api.Addr {
	return []api.Addr{
		0, 1, 0x00ffffff, 0x01000000, sender, 0x7effffff, 0x7f000000, 0x7f000001, 0x7fffffff, 0x80000000,
		0xc0a80001, 0xdfffffff, 0xe0000000, 0xe0000005, 0xefffffff, 0xf0000000, 0xfffffffe, 0xffffffff,
	}
}

// modelPlain is P1.9's last word, by the address's first byte.
func modelPlain(a api.Addr) bool {
	first := a / (1 << 24)
	return first != 0 && first != 127 && first < 224
}

func modelIsFault(typ byte) bool {
	return slices.Contains([]byte{3, 4, 5, 11, 12}, typ)
}

func modelParse(b []byte) (api.Control, api.Errno) {
	if len(b) < 8 {
		return api.Control{}, api.ErrShort
	}
	if len(b) > 65515 {
		return api.Control{}, api.ErrBig
	}
	if ip4.Sum(b) != 0 {
		return api.Control{}, api.ErrSum
	}
	return api.Control{Type: b[0], Code: b[1], Rest: binary.BigEndian.Uint32(b[4:8]), Body: slices.Clone(b[8:])}, api.OK
}

func modelBuild(c api.Control) ([]byte, api.Errno) {
	if len(c.Body) > 65507 {
		return nil, api.ErrBig
	}
	b := []byte{c.Type, c.Code, 0, 0}
	b = binary.BigEndian.AppendUint32(b, c.Rest)
	b = append(b, c.Body...)
	binary.BigEndian.PutUint16(b[2:], ip4.Sum(b))
	return b, api.OK
}

// built is a message's bytes that the test needs.
func built(typ, code byte, rest uint32, body []byte) []byte {
	b, err := modelBuild(api.Control{Type: typ, Code: code, Rest: rest, Body: body})
	if err != api.OK {
		panic(err)
	}
	return b
}

// modelMay is P6.3's first ErrArg and second.
func modelMay(typ, code byte, arg int) bool {
	switch {
	case typ == 3 && code == 4:
		return 0 <= arg && arg <= 65535
	case typ == 3 && code <= 15, typ == 11 && code <= 1, typ == 12 && (code == 1 || code == 2):
		return arg == 0
	case typ == 12 && code == 0:
		return 0 <= arg && arg <= 255
	}
	return false
}

func modelFault(p api.Packet, typ, code byte, arg int, from api.Addr) (api.Packet, api.Errno) {
	var none api.Packet
	if !modelMay(typ, code, arg) {
		return none, api.ErrArg
	}
	if !modelPlain(from) {
		return none, api.ErrArg
	}
	b, err := ip4.Build(p)
	if err != api.OK {
		return none, err
	}
	if p.Head.Off > 0 {
		return none, api.ErrQuiet
	}
	if p.Head.Proto == 1 && (len(p.Body) == 0 || modelIsFault(p.Body[0])) {
		return none, api.ErrQuiet
	}
	if !modelPlain(p.Head.Src) || !modelPlain(p.Head.Dst) {
		return none, api.ErrQuiet
	}
	rest := uint32(arg)
	if typ == 12 {
		rest = uint32(arg * (1 << 24))
	}
	header := 4 * int(b[0]%16)
	body := built(typ, code, rest, b[:min(header+8, len(b))])
	return api.Packet{Head: api.Head{TTL: 64, Proto: 1, Src: from, Dst: p.Head.Src}, Body: body}, api.OK
}

// modelMessage is what P6.4 and P6.5 begin with.
func modelMessage(p api.Packet) (api.Control, api.Errno) {
	if _, err := ip4.Build(p); err != api.OK {
		return api.Control{}, err
	}
	if p.Head.Proto != 1 {
		return api.Control{}, api.ErrICMP
	}
	if p.Head.Off > 0 {
		return api.Control{}, api.ErrICMP
	}
	if p.Head.MF {
		return api.Control{}, api.ErrICMP
	}
	return modelParse(p.Body)
}

func modelEcho(p api.Packet) (api.Packet, api.Errno) {
	c, err := modelMessage(p)
	if err != api.OK {
		return api.Packet{}, err
	}
	if c.Type != 8 || c.Code != 0 {
		return api.Packet{}, api.ErrNotEcho
	}
	if !modelPlain(p.Head.Src) || !modelPlain(p.Head.Dst) {
		return api.Packet{}, api.ErrQuiet
	}
	head := api.Head{TOS: p.Head.TOS, TTL: 64, Proto: 1, Src: p.Head.Dst, Dst: p.Head.Src}
	return api.Packet{Head: head, Body: built(0, 0, c.Rest, c.Body)}, api.OK
}

func modelAbout(p api.Packet) (api.Head, []byte, api.Errno) {
	c, err := modelMessage(p)
	if err != api.OK {
		return api.Head{}, nil, err
	}
	if !modelIsFault(c.Type) {
		return api.Head{}, nil, api.ErrNotEcho
	}
	return ip4.Peek(c.Body)
}

func sameControl(a, b api.Control) bool {
	return a.Type == b.Type && a.Code == b.Code && a.Rest == b.Rest && bytes.Equal(a.Body, b.Body)
}

func sameHead(a, b api.Head) bool {
	return a.TOS == b.TOS && a.ID == b.ID && a.DF == b.DF && a.MF == b.MF && a.Off == b.Off && a.TTL == b.TTL &&
		a.Proto == b.Proto && a.Src == b.Src && a.Dst == b.Dst && bytes.Equal(a.Opts, b.Opts)
}

func samePacket(a, b api.Packet) bool {
	return sameHead(a.Head, b.Head) && bytes.Equal(a.Body, b.Body)
}

// brief tells a packet without the end of a long body.
func brief(p api.Packet) string {
	return fmt.Sprintf("%+v body %d: %.80x", p.Head, len(p.Body), p.Body)
}

// checkParse holds Parse of b against the model, and tells the error.
func checkParse(t *testing.T, b []byte) api.Errno {
	t.Helper()
	want, wantErr := modelParse(b)
	if c, err := Parse(b); err != wantErr || !sameControl(c, want) {
		t.Errorf("P6.1: Parse(%.80x) of %d bytes = %.80v, %d, want %.80v, %d", b, len(b), c, err, want, wantErr)
	}
	return wantErr
}

func checkBuild(t *testing.T, c api.Control) {
	t.Helper()
	want, wantErr := modelBuild(c)
	if b, err := Build(c); err != wantErr || !bytes.Equal(b, want) {
		t.Errorf("P6.2: Build(%.80v) of %d bytes = %.80x, %d, want %.80x, %d", c, len(c.Body), b, err, want, wantErr)
	}
}

// checkFault holds Fault against the model, and tells its answer.
func checkFault(t *testing.T, p api.Packet, typ, code byte, arg int, from api.Addr) (api.Packet, api.Errno) {
	t.Helper()
	want, wantErr := modelFault(p, typ, code, arg, from)
	if q, err := Fault(p, typ, code, arg, from); err != wantErr || !samePacket(q, want) {
		t.Errorf("P6.3: Fault(%s, %d, %d, %d, %#x) = %s, %d, want %s, %d", brief(p), typ, code, arg, from, brief(q), err, brief(want), wantErr)
	}
	return want, wantErr
}

func checkEcho(t *testing.T, p api.Packet) (api.Packet, api.Errno) {
	t.Helper()
	want, wantErr := modelEcho(p)
	if q, err := Echo(p); err != wantErr || !samePacket(q, want) {
		t.Errorf("P6.4: Echo(%s) = %s, %d, want %s, %d", brief(p), brief(q), err, brief(want), wantErr)
	}
	return want, wantErr
}

func checkAbout(t *testing.T, p api.Packet) api.Errno {
	t.Helper()
	want, wantBytes, wantErr := modelAbout(p)
	if h, b, err := About(p); err != wantErr || !sameHead(h, want) || !bytes.Equal(b, wantBytes) {
		t.Errorf("P6.5: About(%s) = %+v, %.80x, %d, want %+v, %.80x, %d", brief(p), h, b, err, want, wantBytes, wantErr)
	}
	return wantErr
}

func isErr(t *testing.T, name string, got, want api.Errno) {
	t.Helper()
	if got != want {
		t.Errorf("%s: the error is %d, want %d", name, got, want)
	}
}

// someOptions is an option area, or mostly one.
func someOptions(roll *rand.Rand) []byte {
	switch roll.Intn(8) {
	case 0:
		return fill(40, 1)
	case 1:
		return unhex("83030400")
	case 2:
		return unhex("0703048207040a0900000000")
	case 3:
		return unhex("83070409")
	}
	return nil
}

func someAddr(roll *rand.Rand) api.Addr {
	if roll.Intn(8) == 0 {
		edges := edgeAddrs()
		return edges[roll.Intn(len(edges))]
	}
	return api.Addr(10<<24 + roll.Intn(1<<24))
}

// someMessage is a message's bytes of a type that matters here, now and then spoilt.
func someMessage(roll *rand.Rand) []byte {
	typ := []byte{0, 3, 4, 5, 8, 8, 8, 11, 12, byte(roll.Int())}[roll.Intn(10)]
	code := []byte{0, 0, 0, 1, byte(roll.Int())}[roll.Intn(5)]
	body := some(roll, roll.Intn(36))
	if roll.Intn(2) == 0 {
		body, _ = ip4.Build(somePacket(roll, roll.Intn(12)))
		if len(body) > 0 && roll.Intn(4) == 0 {
			body = body[:roll.Intn(len(body))]
		}
	}
	b := built(typ, code, roll.Uint32(), body)
	if roll.Intn(8) == 0 {
		b[roll.Intn(len(b))] ^= 1 << roll.Intn(8)
	}
	if roll.Intn(16) == 0 {
		b = b[:roll.Intn(len(b))]
	}
	return b
}

// somePacket is a packet with a body of that length, mostly one that may be.
func somePacket(roll *rand.Rand, size int) api.Packet {
	p := api.Packet{Head: api.Head{
		TOS: byte(roll.Int()), ID: uint16(roll.Int()), DF: roll.Intn(2) == 0, MF: roll.Intn(8) == 0,
		TTL: byte(roll.Int()), Proto: []byte{1, 6, 17, byte(roll.Int())}[roll.Intn(4)],
		Src: someAddr(roll), Dst: someAddr(roll), Opts: someOptions(roll),
	}, Body: some(roll, size)}
	if roll.Intn(8) == 0 {
		p.Head.Off = []int{8, 16, 65528, 4, -8, 1 << 40}[roll.Intn(6)]
	}
	return p
}

// someCarrier is a packet with a message.
func someCarrier(roll *rand.Rand) api.Packet {
	p := somePacket(roll, 0)
	if roll.Intn(8) > 0 {
		p.Head.Proto = 1
	}
	p.Body = someMessage(roll)
	return p
}

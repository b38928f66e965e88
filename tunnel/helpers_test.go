package tunnel

import (
	"bytes"
	"encoding/binary"
	"encoding/hex"
	"fmt"
	"math/rand"
	"slices"
	"strings"
	"testing"

	"weft/api"
	"weft/ip4"
)

const (
	here  api.Addr = 192<<24 + 2<<8 + 10
	there api.Addr = 192<<24 + 2<<8 + 11
)

// edgeAddrs has the ends of what an address may be, and words that turn the sum round.
func edgeAddrs() []api.Addr {
	return []api.Addr{0, 1, 0xffff, 0x10000, 0xffff0000, 1<<31 - 1, 1 << 31, 0xfffffffe, 0xffffffff, here, there}
}

// edgeSizes has lengths around all the bounds of the chapter.
func edgeSizes() []int {
	return []int{
		0, 1, 2, 5, 6, 7, 8, 9, 12, 13, 14, 15, 16, 21, 22, 23, 50, 255, 256, 1500,
		65471, 65485, 65486, 65499, 65500, 65501, 65507, 65508, 65515, 65516, 65527, 65528, 65535, 65536, 65537, 65550, 1 << 17,
	}
}

// dice rolls the same way in every run.
func dice() *rand.Rand {
	return rand.New(rand.NewSource(7))
}

func unhex(s string) []byte {
	b, err := hex.DecodeString(strings.ReplaceAll(s, " ", ""))
	if err != nil {
		panic(err)
	}
	return b
}

func joined(parts ...[]byte) []byte {
	return slices.Concat(parts...)
}

func some(roll *rand.Rand, n int) []byte {
	b := make([]byte, n)
	roll.Read(b)
	return b
}

// run is 1, 2, 3 and so on.
func run(n int) []byte {
	b := make([]byte, n)
	for i := range b {
		b[i] = byte(i + 1)
	}
	return b
}

// set16 is the bytes with a number of two bytes at a place.
func set16(b []byte, place int, v uint16) []byte {
	b = slices.Clone(b)
	binary.BigEndian.PutUint16(b[place:], v)
	return b
}

// set8 is the bytes with one of them changed.
func set8(b []byte, place int, v byte) []byte {
	b = slices.Clone(b)
	b[place] = v
	return b
}

// modelSum is RFC 1071: the ones' complement of the ones' complement sum, by adding the carry back.
func modelSum(b []byte) uint16 {
	var s uint32
	for i := 0; i < len(b); i += 2 {
		s += uint32(b[i]) * 256
		if i+1 < len(b) {
			s += uint32(b[i+1])
		}
		if s > 0xffff {
			s = s - 0x10000 + 1
		}
	}
	return uint16(0xffff - s)
}

func modelType(typ uint16) api.Errno {
	if typ < 1536 {
		return api.ErrFrame
	}
	if typ == 0x8100 || typ == 0x88a8 {
		return api.ErrVlan
	}
	return api.OK
}

func modelParseFrame(b []byte) (api.Frame, api.Errno) {
	if len(b) > 65499 {
		return api.Frame{}, api.ErrLong
	}
	if len(b) < 14 {
		return api.Frame{}, api.ErrFrame
	}
	typ := binary.BigEndian.Uint16(b[12:14])
	if err := modelType(typ); err != api.OK {
		return api.Frame{}, err
	}
	return api.Frame{Dst: api.MAC(b[0:6]), Src: api.MAC(b[6:12]), Type: typ, Body: slices.Clone(b[14:])}, api.OK
}

func modelBuildFrame(f api.Frame) ([]byte, api.Errno) {
	if len(f.Body) > 65485 {
		return nil, api.ErrLong
	}
	if err := modelType(f.Type); err != api.OK {
		return nil, err
	}
	return joined(f.Dst[:], f.Src[:], binary.BigEndian.AppendUint16(nil, f.Type), f.Body), api.OK
}

func modelPseudo(src, dst api.Addr, length uint16) []byte {
	b := binary.BigEndian.AppendUint32(nil, uint32(src))
	b = binary.BigEndian.AppendUint32(b, uint32(dst))
	return binary.BigEndian.AppendUint16(append(b, 0, 17), length)
}

func modelParseUDP(src, dst api.Addr, b []byte) (api.Datagram, api.Errno) {
	if len(b) > 65535 {
		return api.Datagram{}, api.ErrLong
	}
	if len(b) < 8 {
		return api.Datagram{}, api.ErrUDP
	}
	length := binary.BigEndian.Uint16(b[4:6])
	if length < 8 {
		return api.Datagram{}, api.ErrUDP
	}
	if int(length) > len(b) {
		return api.Datagram{}, api.ErrUDP
	}
	if b[6] != 0 || b[7] != 0 {
		if modelSum(joined(modelPseudo(src, dst, length), b[:length])) != 0 {
			return api.Datagram{}, api.ErrUSum
		}
	}
	return api.Datagram{SrcPort: binary.BigEndian.Uint16(b[0:2]), DstPort: binary.BigEndian.Uint16(b[2:4]), Body: slices.Clone(b[8:length])}, api.OK
}

func modelBuildUDP(src, dst api.Addr, d api.Datagram, sum bool) ([]byte, api.Errno) {
	if len(d.Body) > 65527 {
		return nil, api.ErrLong
	}
	b := binary.BigEndian.AppendUint16(nil, d.SrcPort)
	b = binary.BigEndian.AppendUint16(b, d.DstPort)
	b = binary.BigEndian.AppendUint16(b, uint16(8+len(d.Body)))
	b = append(b, 0, 0)
	b = append(b, d.Body...)
	if !sum {
		return b, api.OK
	}
	s := modelSum(joined(modelPseudo(src, dst, uint16(len(b))), b))
	if s == 0 {
		s = 0xffff
	}
	return set16(b, 6, s), api.OK
}

func modelFlow(f api.Frame) uint16 {
	key := joined(f.Src[:], f.Dst[:])
	if f.Type == 0x0800 {
		if p, err := ip4.Parse(f.Body); err == api.OK {
			key = binary.BigEndian.AppendUint32(nil, uint32(p.Head.Src))
			key = binary.BigEndian.AppendUint32(key, uint32(p.Head.Dst))
			key = append(key, p.Head.Proto)
		}
	}
	h := 1
	for _, b := range key {
		h = (h*251 + int(b) + 1) % 65521
	}
	return uint16(49152 + h%16384)
}

// modelSeal lays the outer header by hand.
func modelSeal(o api.Outer, f api.Frame) ([]byte, api.Errno) {
	if o.VNI < 0 || o.VNI > 16777215 {
		return nil, api.ErrOuter
	}
	frame, err := modelBuildFrame(f)
	if err != api.OK {
		return nil, err
	}
	vni := []byte{byte(o.VNI / 65536), byte(o.VNI / 256), byte(o.VNI)}
	body := joined([]byte{8, 0, 0, 0}, vni, []byte{0}, frame)
	datagram, _ := modelBuildUDP(o.Src, o.Dst, api.Datagram{SrcPort: o.SrcPort, DstPort: o.DstPort, Body: body}, false)
	b := binary.BigEndian.AppendUint16([]byte{0x45, 0}, uint16(20+len(datagram)))
	b = append(b, 0, 0, 0x40, 0, o.TTL, 17, 0, 0)
	b = binary.BigEndian.AppendUint32(b, uint32(o.Src))
	b = binary.BigEndian.AppendUint32(b, uint32(o.Dst))
	return joined(set16(b, 10, modelSum(b)), datagram), api.OK
}

func modelOpen(b []byte) (api.Outer, api.Frame, api.Errno) {
	none, no := api.Outer{}, api.Frame{}
	p, err := ip4.Parse(b)
	if err != api.OK {
		return none, no, err
	}
	if p.Head.MF || p.Head.Off != 0 {
		return none, no, api.ErrPiece
	}
	if p.Head.Proto != 17 {
		return none, no, api.ErrProto
	}
	d, err := modelParseUDP(p.Head.Src, p.Head.Dst, p.Body)
	if err != api.OK {
		return none, no, err
	}
	if len(d.Body) < 8 {
		return none, no, api.ErrVX
	}
	if d.Body[0]/8%2 == 0 {
		return none, no, api.ErrFlags
	}
	f, err := modelParseFrame(d.Body[8:])
	if err != api.OK {
		return none, no, err
	}
	vni := int(d.Body[4])*65536 + int(d.Body[5])*256 + int(d.Body[6])
	return api.Outer{Src: p.Head.Src, Dst: p.Head.Dst, SrcPort: d.SrcPort, DstPort: d.DstPort, TTL: p.Head.TTL, VNI: vni}, f, api.OK
}

func sameFrame(a, b api.Frame) bool {
	return a.Dst == b.Dst && a.Src == b.Src && a.Type == b.Type && bytes.Equal(a.Body, b.Body)
}

func sameDatagram(a, b api.Datagram) bool {
	return a.SrcPort == b.SrcPort && a.DstPort == b.DstPort && bytes.Equal(a.Body, b.Body)
}

// brief tells a frame without the end of a long body.
func brief(f api.Frame) string {
	return fmt.Sprintf("{%x %x %#04x body %d: %.80x}", f.Dst, f.Src, f.Type, len(f.Body), f.Body)
}

func briefDatagram(d api.Datagram) string {
	return fmt.Sprintf("{%d %d body %d: %.80x}", d.SrcPort, d.DstPort, len(d.Body), d.Body)
}

// checkParseFrame holds ParseFrame against the model, and tells the answer.
func checkParseFrame(t *testing.T, b []byte) (api.Frame, api.Errno) {
	t.Helper()
	want, wantErr := modelParseFrame(b)
	if f, err := ParseFrame(b); err != wantErr || !sameFrame(f, want) {
		t.Errorf("P7.1: ParseFrame(%.80x) of %d bytes = %s, %d, want %s, %d", b, len(b), brief(f), err, brief(want), wantErr)
	}
	return want, wantErr
}

func checkBuildFrame(t *testing.T, f api.Frame) ([]byte, api.Errno) {
	t.Helper()
	want, wantErr := modelBuildFrame(f)
	if b, err := BuildFrame(f); err != wantErr || !bytes.Equal(b, want) {
		t.Errorf("P7.2: BuildFrame(%s) = %.80x, %d, want %.80x, %d", brief(f), b, err, want, wantErr)
	}
	return want, wantErr
}

func checkParseUDP(t *testing.T, src, dst api.Addr, b []byte) (api.Datagram, api.Errno) {
	t.Helper()
	want, wantErr := modelParseUDP(src, dst, b)
	if d, err := ParseUDP(src, dst, b); err != wantErr || !sameDatagram(d, want) {
		t.Errorf("P7.3: ParseUDP(%#x, %#x, %.80x) of %d bytes = %s, %d, want %s, %d", src, dst, b, len(b), briefDatagram(d), err, briefDatagram(want), wantErr)
	}
	return want, wantErr
}

func checkBuildUDP(t *testing.T, src, dst api.Addr, d api.Datagram, sum bool) ([]byte, api.Errno) {
	t.Helper()
	want, wantErr := modelBuildUDP(src, dst, d, sum)
	if b, err := BuildUDP(src, dst, d, sum); err != wantErr || !bytes.Equal(b, want) {
		t.Errorf("P7.4: BuildUDP(%#x, %#x, %s, %v) = %.80x, %d, want %.80x, %d", src, dst, briefDatagram(d), sum, b, err, want, wantErr)
	}
	return want, wantErr
}

func checkFlow(t *testing.T, f api.Frame) uint16 {
	t.Helper()
	want := modelFlow(f)
	if port := Flow(f); port != want {
		t.Errorf("P7.5: Flow(%s) = %d, want %d", brief(f), port, want)
	}
	return want
}

func checkSeal(t *testing.T, o api.Outer, f api.Frame) ([]byte, api.Errno) {
	t.Helper()
	want, wantErr := modelSeal(o, f)
	if b, err := Seal(o, f); err != wantErr || !bytes.Equal(b, want) {
		t.Errorf("P7.6: Seal(%+v, %s) = %.100x, %d, want %.100x, %d", o, brief(f), b, err, want, wantErr)
	}
	return want, wantErr
}

func checkOpen(t *testing.T, b []byte) (api.Outer, api.Frame, api.Errno) {
	t.Helper()
	want, wantFrame, wantErr := modelOpen(b)
	if o, f, err := Open(b); err != wantErr || o != want || !sameFrame(f, wantFrame) {
		t.Errorf("P7.7: Open(%.100x) of %d bytes = %+v, %s, %d, want %+v, %s, %d", b, len(b), o, brief(f), err, want, brief(wantFrame), wantErr)
	}
	return want, wantFrame, wantErr
}

func isErr(t *testing.T, name string, got, want api.Errno) {
	t.Helper()
	if got != want {
		t.Errorf("%s: the error is %d, want %d", name, got, want)
	}
}

// packed is a packet's bytes that the test needs.
func packed(p api.Packet) []byte {
	b, err := ip4.Build(p)
	if err != api.OK {
		panic(err)
	}
	return b
}

// someType is a frame's type, now and then one of the edges.
func someType(roll *rand.Rand) uint16 {
	list := []uint16{0x0800, 0x0800, 0x0800, 0x0806, 0x86dd, 0x0600, 0x05ff, 0x8100, 0x88a8, 0xffff, 0, uint16(roll.Int())}
	return list[roll.Intn(len(list))]
}

// somePacket is a packet's bytes, or now and then nearly.
func somePacket(roll *rand.Rand) []byte {
	head := api.Head{TOS: byte(roll.Int()), ID: uint16(roll.Int()), DF: roll.Intn(2) == 0, TTL: byte(roll.Int()), Proto: byte(roll.Int()), Src: someAddr(roll), Dst: someAddr(roll)}
	if roll.Intn(4) == 0 {
		head.MF, head.Off = true, 8*roll.Intn(100)
	}
	if roll.Intn(4) == 0 {
		head.Opts = unhex("83030400")
	}
	b := packed(api.Packet{Head: head, Body: some(roll, 8*(1+roll.Intn(4)))})
	switch roll.Intn(8) {
	case 0:
		b[roll.Intn(20)] ^= 1 << roll.Intn(8)
	case 1:
		b = b[:roll.Intn(len(b))]
	case 2:
		b = append(b, some(roll, 3)...)
	}
	return b
}

func someAddr(roll *rand.Rand) api.Addr {
	if roll.Intn(4) == 0 {
		edges := edgeAddrs()
		return edges[roll.Intn(len(edges))]
	}
	return api.Addr(roll.Uint32())
}

// someFrame is a frame with a packet in it or with anything else.
func someFrame(roll *rand.Rand) api.Frame {
	f := api.Frame{Dst: api.MAC(some(roll, 6)), Src: api.MAC(some(roll, 6)), Type: someType(roll)}
	if roll.Intn(2) == 0 {
		f.Body = somePacket(roll)
	} else {
		f.Body = some(roll, roll.Intn(40))
	}
	return f
}

// someOuter is mostly one that may be.
func someOuter(roll *rand.Rand) api.Outer {
	o := api.Outer{Src: someAddr(roll), Dst: someAddr(roll), SrcPort: uint16(roll.Int()), DstPort: uint16(roll.Int()), TTL: byte(roll.Int()), VNI: roll.Intn(1 << 24)}
	if roll.Intn(16) == 0 {
		o.VNI = []int{-1, 0, 1<<24 - 1, 1 << 24, -1 << 63, 1<<63 - 1, 1 << 32, 1<<32 + 5}[roll.Intn(8)]
	}
	return o
}

// someSealed is an outer packet, now and then with a sum, spoilt in its datagram, or cut.
func someSealed(roll *rand.Rand) []byte {
	f := someFrame(roll)
	raw := joined(f.Dst[:], f.Src[:], binary.BigEndian.AppendUint16(nil, f.Type), f.Body)
	header := []byte{8, 0, 0, 0, byte(roll.Int()), byte(roll.Int()), byte(roll.Int()), 0}
	if roll.Intn(2) == 0 {
		header = some(roll, 8)
	}
	src, dst := someAddr(roll), someAddr(roll)
	d := api.Datagram{SrcPort: uint16(roll.Int()), DstPort: uint16(roll.Int()), Body: joined(header, raw)}
	if roll.Intn(4) == 0 {
		d.Body = d.Body[:roll.Intn(len(d.Body))]
	}
	datagram, _ := modelBuildUDP(src, dst, d, roll.Intn(2) == 0)
	switch roll.Intn(8) {
	case 0:
		datagram[roll.Intn(len(datagram))] ^= 1 << roll.Intn(8)
	case 1:
		datagram = append(datagram, some(roll, 1+roll.Intn(4))...)
	case 2:
		datagram = datagram[:roll.Intn(len(datagram))]
	}
	head := api.Head{TOS: byte(roll.Int()), ID: uint16(roll.Int()), DF: roll.Intn(2) == 0, TTL: byte(roll.Int()), Proto: 17, Src: src, Dst: dst}
	switch roll.Intn(12) {
	case 0:
		head.Proto = byte(roll.Int())
	case 1:
		head.Off = 8 * roll.Intn(100)
	case 2:
		head.Opts = unhex("83070401 02030400")
	}
	b := packed(api.Packet{Head: head, Body: datagram})
	switch roll.Intn(12) {
	case 0:
		b[roll.Intn(20)] ^= 1 << roll.Intn(8)
	case 1:
		b = append(b, some(roll, 5)...)
	case 2:
		b = b[:roll.Intn(len(b))]
	}
	return b
}

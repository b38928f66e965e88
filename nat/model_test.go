package nat

import (
	"bytes"
	"encoding/binary"
	"hash/fnv"
	"math/big"
	"testing"

	"weft/api"
	"weft/icmp"
	"weft/ip4"
)

// The model turns packets in their bytes, and takes sums as exact numbers, by the chapter's words.

// overTurned is the chapter's sum turned over.
func overTurned(f uint16, old, next []uint16) uint16 {
	total, changed := big.NewInt(int64(65535-f)), false
	for i := range old {
		if old[i] != next[i] {
			total.Add(total, big.NewInt(int64(65535-old[i])))
			total.Add(total, big.NewInt(int64(next[i])))
			changed = true
		}
	}
	if !changed {
		return f
	}
	if total.Sign() == 0 {
		return 65535
	}
	one := big.NewInt(1)
	s := total.Sub(total, one)
	s.Mod(s, big.NewInt(65535)).Add(s, one)
	return uint16(65535 - s.Int64())
}

// six is the words of a tuple, as they lie in its bytes.
func six(u api.Tuple) []uint16 {
	b := binary.BigEndian.AppendUint32(nil, uint32(u.Src))
	b = binary.BigEndian.AppendUint32(b, uint32(u.Dst))
	b = binary.BigEndian.AppendUint16(b, u.SrcPort)
	b = binary.BigEndian.AppendUint16(b, u.DstPort)
	var list []uint16
	for i := 0; i < len(b); i += 2 {
		list = append(list, get(b, i))
	}
	return list
}

func headSizeOf(raw []byte) int {
	return int(raw[0]&15) * 4
}

// modelTuple is the tuple of the packet whose header begins raw, with what is there of its body; least is how many bytes of it there must be, by protocol.
func modelTuple(raw, body []byte, least map[byte]int) (api.Tuple, bool) {
	n, known := least[raw[9]]
	if !known || len(body) < n || get(raw, 6)<<3 != 0 {
		return api.Tuple{}, false
	}
	u := tup(api.Addr(binary.BigEndian.Uint32(raw[12:])), api.Addr(binary.BigEndian.Uint32(raw[16:])), raw[9], get(body, 0), get(body, 2))
	if u.Proto == 1 {
		u.SrcPort, u.DstPort = get(body, 4), get(body, 4)
		return u, bytes.HasPrefix(body, []byte{8, 0}) || bytes.HasPrefix(body, []byte{0, 0})
	}
	return u, true
}

// readdress writes other addresses into a header, and its right sum.
func readdress(raw []byte, src, dst api.Addr) {
	binary.BigEndian.PutUint32(raw[12:], uint32(src))
	binary.BigEndian.PutUint32(raw[16:], uint32(dst))
	put(raw, 10, 0)
	put(raw, 10, sumOf(raw[:headSizeOf(raw)]))
}

// modelMessage turns what there is of a message. (The rule about messages of zeros is Turn's alone.)
func modelMessage(b []byte, from, to api.Tuple) {
	hadSum := !bytes.Equal(b[6:8], []byte{0, 0})
	switch from.Proto {
	case 1:
		put(b, 2, overTurned(get(b, 2), []uint16{from.SrcPort}, []uint16{to.SrcPort}))
		put(b, 4, to.SrcPort)
	case 6:
		if len(b) > 17 {
			put(b, 16, overTurned(get(b, 16), six(from), six(to)))
		}
	case 17:
		if hadSum {
			put(b, 6, overTurned(get(b, 6), six(from), six(to)))
		}
		if hadSum && get(b, 6) == 0 {
			put(b, 6, 65535)
		}
	}
	if from.Proto != 1 {
		put(b, 0, to.SrcPort)
		put(b, 2, to.DstPort)
	}
}

func unlike(from, to api.Tuple) bool {
	return from.Proto != to.Proto || from.Proto == 1 && to.SrcPort != to.DstPort
}

func modelTurn(p api.Packet, to api.Tuple) (api.Packet, api.Errno) {
	raw, err := ip4.Build(p)
	if err != api.OK {
		return api.Packet{}, err
	}
	body := raw[headSizeOf(raw):]
	from, told := modelTuple(raw, body, leastBody)
	if !told || unlike(from, to) {
		return api.Packet{}, api.ErrMatch
	}
	modelMessage(body, from, to)
	if from.Proto == 1 && from.SrcPort != to.SrcPort && len(bytes.Trim(body, "\x00")) == 0 {
		put(body, 2, 65535)
	}
	readdress(raw, to.Src, to.Dst)
	q, err := ip4.Parse(raw)
	if err != api.OK {
		panic("the model made no packet")
	}
	return q, api.OK
}

func modelTurnFault(p api.Packet, src, dst api.Addr, to api.Tuple) (api.Packet, api.Errno) {
	if _, _, err := icmp.About(p); err != api.OK {
		return api.Packet{}, err
	}
	raw, _ := ip4.Build(p)
	message := raw[headSizeOf(raw):]
	inner := message[8:]
	quoted := inner[headSizeOf(inner):min(int(get(inner, 2)), len(inner))]
	from, told := modelTuple(inner, quoted, map[byte]int{1: 8, 6: 8, 17: 8})
	if !told || unlike(from, to) || !bytes.Contains([]byte{3, 11, 12}, message[:1]) {
		return api.Packet{}, api.ErrMatch
	}
	modelMessage(quoted, from, to)
	readdress(inner, to.Src, to.Dst)
	put(message, 2, 0)
	put(message, 2, sumOf(message))
	readdress(raw, src, dst)
	q, err := ip4.Parse(raw)
	if err != api.OK {
		panic("the model made no packet")
	}
	return q, api.OK
}

// modelWeight takes the library's hash, and exact numbers behind it.
func modelWeight(u api.Tuple, b api.Backend) uint64 {
	h := fnv.New64a()
	for _, v := range []any{u.Src, u.Dst, u.Proto, u.SrcPort, u.DstPort, b.Addr, b.Port} {
		binary.Write(h, binary.BigEndian, v)
	}
	n := new(big.Int).SetUint64(h.Sum64())
	n.Xor(n, new(big.Int).Div(n, big.NewInt(1<<32)))
	factor, _ := new(big.Int).SetString("11400714819323198485", 10)
	n.Mul(n, factor).Mod(n, new(big.Int).Lsh(big.NewInt(1), 64))
	n.Xor(n, new(big.Int).Div(n, big.NewInt(1<<29)))
	return n.Uint64()
}

func modelPick(u api.Tuple, list []api.Backend) (int, api.Errno) {
	if len(list) > 256 {
		return 0, api.ErrLong
	}
	if len(list) == 0 {
		return 0, api.ErrBackend
	}
	best := len(list) - 1
	for i := best; i >= 0; i-- {
		if modelWeight(u, list[i]) >= modelWeight(u, list[best]) {
			best = i
		}
	}
	return best, api.OK
}

// modelPorts is ports as the numbers that are taken, port by port.
type modelPorts struct {
	lo, hi int
	taken  map[[2]int]bool // protocol and port
}

func (m *modelPorts) take(proto byte, want uint16) (uint16, api.Errno) {
	first := int(want)
	if first < m.lo || first > m.hi {
		first = m.lo
	}
	n := m.hi - m.lo + 1
	for i := range n {
		port := m.lo + (first-m.lo+i)%n
		if key := [2]int{int(proto), port}; !m.taken[key] {
			m.taken[key] = true
			return uint16(port), api.OK
		}
	}
	return 0, api.ErrPort
}

func (m *modelPorts) give(proto byte, port uint16) api.Errno {
	key := [2]int{int(proto), int(port)}
	if !m.taken[key] {
		return api.ErrPort
	}
	delete(m.taken, key)
	return api.OK
}

// both is ports and their model, which are asked the same.
type both struct {
	t *testing.T
	x *Ports
	m *modelPorts
}

func begun(t *testing.T, lo, hi uint16) both {
	t.Helper()
	x, err := New(lo, hi)
	if err != api.OK || x == nil {
		t.Fatalf("P23.6: New(%d, %d) = %d", lo, hi, err)
	}
	return both{t, x, &modelPorts{lo: int(lo), hi: int(hi), taken: map[[2]int]bool{}}}
}

func (b both) take(proto byte, want uint16) (uint16, api.Errno) {
	b.t.Helper()
	port, err := b.x.Take(proto, want)
	wantPort, wantErr := b.m.take(proto, want)
	if port != wantPort || err != wantErr {
		b.t.Fatalf("P23.6: Take(%d, %d) = %d, %d, want %d, %d", proto, want, port, err, wantPort, wantErr)
	}
	return port, err
}

// takes tells a failure, if not just that port is taken.
func (b both) takes(proto byte, want, port uint16) both {
	b.t.Helper()
	if got, err := b.take(proto, want); got != port || err != api.OK {
		b.t.Errorf("P23.6: Take(%d, %d) = %d, %d, want %d", proto, want, got, err, port)
	}
	return b
}

// full tells a failure, if a port is taken whichever is wanted.
func (b both) full(proto byte) both {
	b.t.Helper()
	for _, want := range []int{0, 1, b.m.lo - 1, b.m.lo, b.m.lo + 1, (b.m.lo + b.m.hi) / 2, b.m.hi - 1, b.m.hi, b.m.hi + 1, 65535} {
		if port, err := b.take(proto, uint16(want)); port != 0 || err != api.ErrPort {
			b.t.Errorf("P23.6: Take(%d, %d) = %d, %d of none", proto, uint16(want), port, err)
		}
	}
	return b
}

func (b both) give(proto byte, port uint16) api.Errno {
	b.t.Helper()
	err := b.x.Give(proto, port)
	if want := b.m.give(proto, port); err != want {
		b.t.Fatalf("P23.6: Give(%d, %d) = %d, want %d", proto, port, err, want)
	}
	return err
}

func (b both) gives(proto byte, port uint16, err api.Errno) both {
	b.t.Helper()
	if got := b.give(proto, port); got != err {
		b.t.Errorf("P23.6: Give(%d, %d) = %d, want %d", proto, port, got, err)
	}
	return b
}

// check holds Taken of all protocols against the model.
func (b both) check() both {
	b.t.Helper()
	counts := [256]int{}
	for key := range b.m.taken {
		counts[key[0]]++
	}
	for proto, want := range counts {
		if got := b.x.Taken(byte(proto)); got != want {
			b.t.Fatalf("P23.6: Taken(%d) = %d, want %d", proto, got, want)
		}
	}
	return b
}

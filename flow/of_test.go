package flow

import (
	"bytes"
	"testing"

	"weft/api"
	"weft/ip4"
)

// has holds Of against a tuple or an error that is said, and against the model.
func has(t *testing.T, p api.Packet, want api.Tuple, wantErr api.Errno) {
	t.Helper()
	if u, err := Of(p); u != want || err != wantErr {
		t.Fatalf("P21.1: Of(%v) = %v, %d, want %v, %d", p, u, err, want, wantErr)
	}
	if u, err := modelOf(p); u != want || err != wantErr {
		t.Fatalf("the model: Of(%v) = %v, %d, want %v, %d", p, u, err, want, wantErr)
	}
}

func refused(t *testing.T, p api.Packet, want api.Errno) {
	t.Helper()
	has(t, p, api.Tuple{}, want)
}

func run(n int) []byte {
	b := make([]byte, n)
	for i := range b {
		b[i] = byte(i*7 + 9)
	}
	return b
}

func TestP21_1Tuples(t *testing.T) {
	for _, ends := range [][2]api.Addr{{hostA, hostB}, {hostB, hostA}, {hostA, hostA}, {0, 0}, {0, 1<<32 - 1}, {0x01020304, 0xfffefdfc}, {quad(224, 0, 0, 1), quad(127, 0, 0, 1)}} {
		for _, ports := range [][2]uint16{{0, 0}, {5, 53}, {53, 5}, {7, 7}, {0x0102, 0x0304}, {0xfffe, 0xfdfc}, {0x8000, 1}, {255, 256}, {65535, 65535}} {
			src, dst, from, to := ends[0], ends[1], ports[0], ports[1]
			has(t, udp(src, dst, from, to), tup(src, dst, 17, from, to), api.OK)
			has(t, tcp(src, dst, from, to, 0), tup(src, dst, 6, from, to), api.OK)
			has(t, ping(src, dst, from), tup(src, dst, 1, from, from), api.OK)
			has(t, pong(src, dst, to), tup(src, dst, 1, to, to), api.OK)
		}
	}
}

// Each bit of a port is one of the tuple's, and nothing else of a body is.
func TestP21_1EachBit(t *testing.T) {
	for _, proto := range []byte{1, 6, 17} {
		clear := make([]byte, 24)
		for bit := range 8 * len(clear) {
			body := bytes.Clone(clear)
			body[bit/8] = 1 << (7 - bit%8)
			want, err := tup(hostA, hostB, proto, 0, 0), api.OK
			switch {
			case proto != 1 && bit < 16:
				want.SrcPort = 1 << (15 - bit)
			case proto != 1 && bit < 32:
				want.DstPort = 1 << (31 - bit)
			case proto == 1 && bit < 16 && bit != 4: // bit 4 makes a request
				want, err = api.Tuple{}, api.ErrTuple
			case proto == 1 && bit >= 32 && bit < 48:
				want.SrcPort, want.DstPort = 1<<(47-bit), 1<<(47-bit)
			}
			has(t, bare(tup(hostA, hostB, proto, 0, 0), body...), want, err)
		}
	}
}

// Whatever else stands in the head is not the tuple's.
func TestP21_1Heads(t *testing.T) {
	for _, proto := range []byte{1, 6, 17} {
		p := of(tup(hostA, hostB, proto, 9, 9), 0xff)
		want := tup(hostA, hostB, proto, 9, 9)
		for _, more := range [][]byte{nil, {1}, run(40)} {
			for _, opts := range [][]byte{nil, {0, 0, 0, 0}, {1, 1, 1, 1}, {0x83, 7, 4, 9, 9, 9, 9, 0}, bytes.Repeat([]byte{1}, 40)} {
				q := p
				q.Body = append(bytes.Clone(p.Body), more...)
				q.Head.Opts, q.Head.TOS, q.Head.ID, q.Head.DF, q.Head.TTL = opts, byte(len(opts)), 0xffff, len(more) > 0, byte(len(more))
				has(t, q, want, api.OK)
			}
		}
	}
}

// A body of each length around those that are needed, under each protocol.
func TestP21_1Lengths(t *testing.T) {
	for proto := range 256 {
		for _, n := range []int{0, 1, 2, 3, 4, 6, 7, 8, 9, 18, 19, 20, 21, 28} {
			body := append([]byte{8, 0, 3, 4, 5, 6, 7}, run(21)...)[:n]
			p := bare(tup(hostA, hostB, byte(proto), 0, 0), body...)
			switch {
			case (proto == 1 || proto == 17) && n < 8, proto == 6 && n < 20:
				refused(t, p, api.ErrShort)
			case proto == 1:
				has(t, p, tup(hostA, hostB, 1, 0x0506, 0x0506), api.OK)
			case proto == 6 || proto == 17:
				has(t, p, tup(hostA, hostB, byte(proto), 0x0800, 0x0304), api.OK)
			default:
				refused(t, p, api.ErrTuple)
			}
		}
	}
}

func TestP21_1TypesAndCodes(t *testing.T) {
	for typ := range 256 {
		for code := range 256 {
			p := control(hostA, hostB, byte(typ), byte(code), 0x1234)
			if code == 0 && (typ == 8 || typ == 0) {
				has(t, p, tup(hostA, hostB, 1, 0x1234, 0x1234), api.OK)
			} else {
				refused(t, p, api.ErrTuple)
			}
		}
	}
}

// A first piece has its tuple, a later one has none.
func TestP21_1Pieces(t *testing.T) {
	for _, u := range []api.Tuple{tup(hostA, hostB, 17, 5, 53), tup(hostA, hostB, 6, 5, 80), tup(hostA, hostB, 1, 7, 7)} {
		for _, off := range []int{0, 8, 16, 1024, 32768, 65496} {
			for _, more := range []bool{false, true} {
				p := of(u, 2)
				p.Body = append(p.Body, run(24-len(p.Body))...) // a multiple of 8, as MF asks
				p.Head.Off, p.Head.MF = off, more
				if off == 0 {
					has(t, p, u, api.OK)
				} else {
					refused(t, p, api.ErrPiece)
				}
			}
		}
	}
}

// Sums that are right are looked at no more than those that are wrong.
func TestP21_1Sums(t *testing.T) {
	for _, u := range []api.Tuple{tup(hostA, hostB, 17, 5, 53), tup(hostA, hostB, 6, 5, 80), tup(hostA, hostB, 1, 7, 7)} {
		for _, at := range []int{2, 6, 16} { // where one of the protocols has its sum
			for _, v := range []byte{0, 1, 255} {
				p := of(u, 0)
				if at < 4 && u.Proto != 1 || at >= len(p.Body) {
					continue
				}
				p.Body[at], p.Body[at+1] = v, v
				has(t, p, u, api.OK)
			}
		}
	}
}

// Each error alone, of packets that are in order but for that.
func TestP21_1EachError(t *testing.T) {
	for _, u := range []api.Tuple{tup(hostA, hostB, 17, 5, 53), tup(hostA, hostB, 6, 5, 80), tup(hostA, hostB, 1, 7, 7)} {
		spoilt := func(want api.Errno, spoil func(p *api.Packet)) {
			t.Helper()
			p := of(u, 2)
			p.Body = append(p.Body, run(24-len(p.Body))...) // a multiple of 8, as MF asks
			has(t, p, u, api.OK)
			spoil(&p)
			refused(t, p, want)
		}
		for _, opts := range [][]byte{{1}, {1, 1, 1}, {0, 1, 0, 0}, {7, 1, 0, 0}, {7, 5, 0, 0}, {1, 1, 1, 7}, bytes.Repeat([]byte{1}, 44)} {
			spoilt(api.ErrOpts, func(p *api.Packet) { p.Head.Opts = opts })
		}
		for _, off := range []int{least, -8, -1, 1, 4, 7, 9, 65529, 65536, most} {
			spoilt(api.ErrOff, func(p *api.Packet) { p.Head.Off = off })
		}
		for _, n := range []int{0, 1, 7, 9, 20, 23} {
			spoilt(api.ErrOff, func(p *api.Packet) { p.Head.MF, p.Body = true, p.Body[:n] })
		}
		spoilt(api.ErrBig, func(p *api.Packet) { p.Body = append(p.Body, make([]byte, 65516-24)...) })
		spoilt(api.ErrPiece, func(p *api.Packet) { p.Head.Off = 8 })
		spoilt(api.ErrShort, func(p *api.Packet) { p.Body = p.Body[:7] })
		for _, proto := range []byte{0, 2, 5, 7, 16, 18, 47, 58, 132, 255} {
			spoilt(api.ErrTuple, func(p *api.Packet) { p.Head.Proto = proto })
		}
	}
}

// Of several errors at once the first that is named.
func TestP21_1OrderOfErrors(t *testing.T) {
	u := tup(hostA, hostB, 17, 5, 53)
	opts := []byte{7, 0, 0, 0}
	for i, row := range []struct {
		head api.Head
		body []byte
		want api.Errno
	}{
		{api.Head{Opts: opts, Off: 3, Proto: 17}, make([]byte, 65530), api.ErrOpts},
		{api.Head{Opts: opts, Off: 8, Proto: 17}, run(8), api.ErrOpts},
		{api.Head{Opts: opts, Proto: 17}, run(7), api.ErrOpts},
		{api.Head{Opts: opts, Proto: 47}, run(8), api.ErrOpts},
		{api.Head{Opts: opts, Proto: 1}, run(8), api.ErrOpts},
		{api.Head{Off: 3, Proto: 17}, make([]byte, 65530), api.ErrOff},
		{api.Head{Off: 3, Proto: 17}, run(7), api.ErrOff},
		{api.Head{Off: 3, Proto: 47}, run(7), api.ErrOff},
		{api.Head{MF: true, Proto: 17}, run(7), api.ErrOff},
		{api.Head{MF: true, Off: 8, Proto: 6}, run(19), api.ErrOff},
		{api.Head{MF: true, Proto: 47}, nil, api.ErrOff},
		{api.Head{Off: 65528, Proto: 17}, run(8), api.ErrOff},
		{api.Head{Off: 8, Proto: 47}, make([]byte, 65516), api.ErrBig},
		{api.Head{Proto: 1}, append([]byte{3}, make([]byte, 65515)...), api.ErrBig},
		{api.Head{Proto: 47}, make([]byte, 65535), api.ErrBig},
		{api.Head{Opts: []byte{1, 1, 1, 1}, Proto: 17}, make([]byte, 65512), api.ErrBig},
		{api.Head{Proto: 17}, make([]byte, 65536), api.ErrOff},
		{api.Head{Off: 8, Proto: 17}, run(7), api.ErrPiece},
		{api.Head{Off: 8, Proto: 6}, run(19), api.ErrPiece},
		{api.Head{Off: 8, Proto: 1}, run(7), api.ErrPiece},
		{api.Head{Off: 8, Proto: 1}, run(8), api.ErrPiece},
		{api.Head{Off: 8, Proto: 47}, nil, api.ErrPiece},
		{api.Head{Off: 8, MF: true, Proto: 47}, run(8), api.ErrPiece},
		{api.Head{Off: 65528, Proto: 17}, run(7), api.ErrPiece},
		{api.Head{Proto: 1}, []byte{3, 0, 0, 0, 0, 0, 0}, api.ErrShort},
		{api.Head{Proto: 1}, []byte{8, 1}, api.ErrShort},
		{api.Head{Proto: 1}, nil, api.ErrShort},
		{api.Head{Proto: 6, MF: true}, run(16), api.ErrShort},
		{api.Head{Proto: 17}, nil, api.ErrShort},
		{api.Head{Proto: 47}, nil, api.ErrTuple},
		{api.Head{Proto: 0}, run(30), api.ErrTuple},
		{api.Head{Proto: 1, MF: true}, run(8), api.ErrTuple},
	} {
		p := bare(u, row.body...)
		p.Head = row.head
		p.Head.Src, p.Head.Dst = hostA, hostB
		if got, err := Of(p); got != (api.Tuple{}) || err != row.want {
			t.Errorf("P21.1: row %d: %v, %d, want %d", i, got, err, row.want)
		}
		refused(t, p, row.want)
	}
}

// The longest packets that may be.
func TestP21_1Longest(t *testing.T) {
	for _, opts := range [][]byte{nil, bytes.Repeat([]byte{1}, 40)} {
		for _, proto := range []byte{6, 17} {
			p := bare(tup(hostA, hostB, proto, 0, 0), append(withPorts(5, 53), make([]byte, 65511-len(opts))...)...)
			p.Head.Opts = opts
			has(t, p, tup(hostA, hostB, proto, 5, 53), api.OK)
			p.Body = append(p.Body, 0)
			refused(t, p, api.ErrBig)
		}
	}
}

// A tuple is told just where there is no error, by packets of any numbers.
func TestP21_1ByDice(t *testing.T) {
	r := dice()
	seen := map[api.Errno]int{}
	for range 30000 {
		p := wild(r)
		want, wantErr := modelOf(p)
		has(t, p, want, wantErr)
		seen[wantErr]++
		if _, err := ip4.Build(p); err != api.OK && err != wantErr {
			t.Fatalf("P21.1: Of(%v): %d, want %d", p, wantErr, err)
		}
	}
	for _, err := range []api.Errno{api.OK, api.ErrOpts, api.ErrOff, api.ErrBig, api.ErrPiece, api.ErrShort, api.ErrTuple} {
		if seen[err] < 300 {
			t.Errorf("the test's own packets came to %d only %d times", err, seen[err])
		}
	}
}

func TestP21_1Back(t *testing.T) {
	for _, row := range [][2]api.Tuple{
		{tup(hostA, hostB, 6, 1, 2), tup(hostB, hostA, 6, 2, 1)},
		{tup(hostA, hostB, 1, 7, 7), tup(hostB, hostA, 1, 7, 7)},
		{tup(hostA, hostB, 1, 7, 8), tup(hostB, hostA, 1, 8, 7)},
		{tup(hostA, hostA, 17, 5, 5), tup(hostA, hostA, 17, 5, 5)},
		{tup(hostA, hostA, 17, 5, 6), tup(hostA, hostA, 17, 6, 5)},
		{tup(hostA, hostB, 17, 5, 5), tup(hostB, hostA, 17, 5, 5)},
		{api.Tuple{}, api.Tuple{}},
		{tup(0, 1<<32-1, 255, 0, 65535), tup(1<<32-1, 0, 255, 65535, 0)},
		{tup(1, 0, 0, 0, 0), tup(0, 1, 0, 0, 0)},
		{tup(0, 0, 47, 1, 0), tup(0, 0, 47, 0, 1)},
	} {
		if u := Back(row[0]); u != row[1] {
			t.Errorf("P21.1: Back(%v) = %v, want %v", row[0], u, row[1])
		}
		if u := Back(row[1]); u != row[0] {
			t.Errorf("P21.1: Back(%v) = %v, want %v", row[1], u, row[0])
		}
	}
}

func TestP21_1BackTwice(t *testing.T) {
	r := dice()
	for range 10000 {
		u := tup(api.Addr(r.Uint32()), api.Addr(r.Uint32()), byte(r.Int()), uint16(r.Int()), uint16(r.Int()))
		if got := Back(u); got != turned(u) || Back(got) != u {
			t.Fatalf("P21.1: Back(%v) = %v, and of that %v", u, got, Back(got))
		}
	}
}

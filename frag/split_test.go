package frag

import (
	"bytes"
	"math"
	"slices"
	"testing"

	"weft/api"
	"weft/ip4"
)

// shape is what tells a piece from the others of its packet.
type shape struct {
	off, bytes int
	more       bool
	opts       int
}

// checkShapes says which pieces are to come out.
func checkShapes(t *testing.T, p api.Packet, mtu int, want ...shape) {
	t.Helper()
	var got []shape
	for _, q := range checkSplit(t, p, mtu) {
		got = append(got, shape{q.Head.Off, len(q.Body), q.Head.MF, len(q.Head.Opts)})
	}
	if !slices.Equal(got, want) {
		t.Errorf("P5.1: Split(%s, %d): %v, want %v", brief(p), mtu, got, want)
	}
}

func checkSplitError(t *testing.T, p api.Packet, mtu int, want api.Errno) {
	t.Helper()
	if l, err := Split(p, mtu); err != want || len(l) != 0 {
		t.Errorf("P5.1: Split(%s, %d) = %s, %d, want %d", brief(p), mtu, brief(l...), err, want)
	}
	checkSplit(t, p, mtu)
}

func TestP5_1Examples(t *testing.T) {
	p := packet(0, false, run(3, 100))
	checkSplitError(t, p, 67, api.ErrMTU)
	checkShapes(t, p, 120, shape{0, 100, false, 0})
	checkShapes(t, p, 119, shape{0, 96, true, 0}, shape{96, 4, false, 0})
	checkShapes(t, p, 68, shape{0, 48, true, 0}, shape{48, 48, true, 0}, shape{96, 4, false, 0})
	checkShapes(t, packet(800, true, run(3, 96)), 68, shape{800, 48, true, 0}, shape{848, 48, true, 0})
	checkSplitError(t, withDF(p), 119, api.ErrDF)
}

func TestP5_1SmallestMTU(t *testing.T) {
	for _, p := range []api.Packet{{}, packet(0, false, nil), packet(0, false, run(0, 100)), packet(4, false, nil), withDF(packet(0, false, run(0, 100)))} {
		for _, mtu := range []int{math.MinInt, -1 << 32, -68, -1, 0, 1, 8, 20, 60, 66, 67} {
			checkSplitError(t, p, mtu, api.ErrMTU)
		}
	}
	checkShapes(t, api.Packet{}, 68, shape{})
	checkShapes(t, packet(0, false, run(0, 48)), 68, shape{0, 48, false, 0})
	checkShapes(t, packet(0, false, run(0, 49)), 68, shape{0, 48, true, 0}, shape{48, 1, false, 0})
	checkShapes(t, packet(0, false, run(0, 49)), math.MaxInt, shape{0, 49, false, 0})
}

func TestP5_1OrderOfErrors(t *testing.T) {
	opts, off, big := []byte{1, 1, 1}, packet(4, false, run(0, 100)), packet(0, false, run(0, 65516))
	checkSplitError(t, withDF(withOpts(off, opts...)), 67, api.ErrMTU)
	checkSplitError(t, withDF(withOpts(off, opts...)), 68, api.ErrOpts)
	checkSplitError(t, withDF(off), 68, api.ErrOff)
	checkSplitError(t, withDF(big), 68, api.ErrBig)
	checkSplitError(t, withDF(big), 67, api.ErrMTU)
	checkSplitError(t, withDF(packet(0, false, run(0, 65515))), 65534, api.ErrDF)
	// What may not be is refused where it would fit too.
	checkSplitError(t, withOpts(packet(0, false, nil), opts...), 1500, api.ErrOpts)
	checkSplitError(t, packet(0, true, nil), 1500, api.ErrOff)
	checkSplitError(t, packet(0, true, run(0, 12)), 1500, api.ErrOff)
	checkSplitError(t, packet(-8, false, run(0, 8)), 1500, api.ErrOff)
	checkSplitError(t, packet(65528, false, run(0, 8)), 1500, api.ErrOff)
	checkSplitError(t, packet(math.MaxInt-7, false, run(0, 8)), 1500, api.ErrOff)
	checkSplitError(t, big, math.MaxInt, api.ErrBig)
	checkSplitError(t, withOpts(packet(0, false, run(0, 65512)), 1, 1, 1, 1), math.MaxInt, api.ErrBig)
}

func TestP5_1JustTheMTU(t *testing.T) {
	for _, opts := range [][]byte{nil, {1, 1, 1, 1}, plainOpts(), copiedOpts(), mixedOpts()} {
		for mtu := 68; mtu < 140; mtu++ {
			fits := mtu - 20 - len(opts)
			p := withOpts(packet(0, false, run(1, fits)), opts...)
			for _, q := range []api.Packet{p, withDF(p)} {
				if l := checkSplit(t, q, mtu); len(l) != 1 || !samePacket(l[0], q) {
					t.Errorf("P5.1: a size of the MTU %d: %s", mtu, brief(l...))
				}
			}
			p.Body = run(1, fits+1)
			if l := checkSplit(t, p, mtu); len(l) != 2 || len(l[0].Body) != fits/8*8 || !l[0].Head.MF || l[1].Head.MF {
				t.Errorf("P5.1: a size of one above the MTU %d: %s", mtu, brief(l...))
			}
			checkSplitError(t, withDF(p), mtu, api.ErrDF)
		}
	}
}

func TestP5_1LongestOptions(t *testing.T) {
	p := packet(0, false, run(3, 60))
	checkShapes(t, withOpts(p, plainOpts()...), 68, shape{0, 8, true, 40}, shape{8, 48, true, 0}, shape{56, 4, false, 0})
	checkShapes(t, withOpts(p, fill(40, 1)...), 68, shape{0, 8, true, 40}, shape{8, 48, true, 0}, shape{56, 4, false, 0})
	checkShapes(t, withOpts(p, fill(40, 0)...), 75, shape{0, 8, true, 40}, shape{8, 52, false, 0})
	checkShapes(t, withOpts(p, copiedOpts()...), 68,
		shape{0, 8, true, 40}, shape{8, 8, true, 40}, shape{16, 8, true, 40}, shape{24, 8, true, 40},
		shape{32, 8, true, 40}, shape{40, 8, true, 40}, shape{48, 8, true, 40}, shape{56, 4, false, 40})
	checkShapes(t, withOpts(p, mixedOpts()...), 68, shape{0, 8, true, 40}, shape{8, 40, true, 8}, shape{48, 12, false, 8})
	pieces, _ := Split(withOpts(p, mixedOpts()...), 68)
	if later := []byte{0x88, 4, 5, 6, 0x82, 3, 9, 0}; !bytes.Equal(pieces[1].Head.Opts, later) || !bytes.Equal(pieces[2].Head.Opts, later) || !bytes.Equal(pieces[0].Head.Opts, mixedOpts()) {
		t.Errorf("P5.1: options: %s", brief(pieces...))
	}
}

// What is left fits with the later pieces' own options, and would not with the first one's.
func TestP5_1TheLastOnesOwnOptions(t *testing.T) {
	p := withOpts(packet(0, false, run(3, 8+48)), plainOpts()...)
	checkShapes(t, p, 68, shape{0, 8, true, 40}, shape{8, 48, false, 0})
	checkShapes(t, withOpts(packet(16, true, run(3, 8+48)), plainOpts()...), 68, shape{16, 8, true, 40}, shape{24, 48, true, 0})
	checkShapes(t, withOpts(packet(0, false, run(3, 8+49)), plainOpts()...), 68, shape{0, 8, true, 40}, shape{8, 48, true, 0}, shape{56, 1, false, 0})
	// As much as fits is more than a multiple of 8, in the last piece alone.
	checkShapes(t, packet(0, false, run(3, 48+55)), 75, shape{0, 48, true, 0}, shape{48, 55, false, 0})
	checkShapes(t, packet(0, false, run(3, 48+56)), 75, shape{0, 48, true, 0}, shape{48, 48, true, 0}, shape{96, 8, false, 0})
	checkShapes(t, packet(0, false, run(3, 56+56)), 76, shape{0, 56, true, 0}, shape{56, 56, false, 0})
}

func TestP5_1CutAgain(t *testing.T) {
	checkShapes(t, packet(800, false, run(3, 60)), 68, shape{800, 48, true, 0}, shape{848, 12, false, 0})
	checkShapes(t, packet(800, true, run(3, 48)), 68, shape{800, 48, true, 0})
	checkShapes(t, packet(800, true, run(3, 56)), 75, shape{800, 48, true, 0}, shape{848, 8, true, 0})
	checkShapes(t, packet(0, true, run(3, 56)), 75, shape{0, 48, true, 0}, shape{48, 8, true, 0})
	checkShapes(t, packet(65528, false, run(3, 7)), 68, shape{65528, 7, false, 0})
	checkShapes(t, packet(65528, false, nil), 68, shape{65528, 0, false, 0})
	checkShapes(t, packet(65480, false, run(3, 55)), 74, shape{65480, 48, true, 0}, shape{65528, 7, false, 0})
	checkShapes(t, packet(65472, true, run(3, 56)), 75, shape{65472, 48, true, 0}, shape{65520, 8, true, 0})
	checkSplitError(t, withDF(packet(800, true, run(3, 56))), 75, api.ErrDF)
}

func TestP5_1Longest(t *testing.T) {
	p := packet(0, false, run(0, 65515))
	checkShapes(t, p, 65535, shape{0, 65515, false, 0})
	checkShapes(t, p, 65534, shape{0, 65512, true, 0}, shape{65512, 3, false, 0})
	for _, mtu := range []int{68, 69, 576, 1500, 32768} {
		checkSplit(t, p, mtu)
		checkSplit(t, packet(16, false, p.Body), mtu)
		checkSplit(t, withOpts(packet(0, false, run(0, 65475)), copiedOpts()...), mtu)
		checkSplit(t, withOpts(packet(0, false, run(0, 65475)), plainOpts()...), mtu)
	}
	if l := checkSplit(t, withOpts(packet(0, false, run(0, 65475)), copiedOpts()...), 68); len(l) != 8185 {
		t.Errorf("P5.1: the longest packet in pieces of 8 bytes: %d pieces", len(l))
	}
}

// checkPieces: what P5.1 says of all pieces, beside the model.
func checkPieces(t *testing.T, p api.Packet, mtu int, pieces []api.Packet) {
	t.Helper()
	at := p.Head.Off
	var body []byte
	for i, q := range pieces {
		if size(q) > mtu || q.Head.Off != at || q.Head.MF != (p.Head.MF || i < len(pieces)-1) {
			t.Fatalf("P5.1: Split(%s, %d): piece %d is %s", brief(p), mtu, i, brief(q))
		}
		if _, err := ip4.Build(q); err != api.OK {
			t.Fatalf("P5.1: Split(%s, %d): piece %d (%s) may not be: %d", brief(p), mtu, i, brief(q), err)
		}
		at += len(q.Body)
		body = append(body, q.Body...)
	}
	if !bytes.Equal(body, p.Body) {
		t.Fatalf("P5.1: Split(%s, %d): the bodies together are %x", brief(p), mtu, body)
	}
}

func TestP5_1SomePackets(t *testing.T) {
	roll := dice()
	for range 20000 {
		p := someWhole(roll, roll.Intn(400))
		p.Head.DF = roll.Intn(10) == 0
		if roll.Intn(2) == 0 {
			p.Head.Off = 8 * roll.Intn(8192)
			p.Head.MF = roll.Intn(2) == 0
		}
		if p.Head.MF && roll.Intn(10) > 0 {
			p.Body = p.Body[:len(p.Body)/8*8]
		}
		mtu := 66 + roll.Intn(150)
		pieces := checkSplit(t, p, mtu)
		if p.Head.DF || len(pieces) == 0 {
			continue
		}
		checkPieces(t, p, mtu, pieces)
		for _, q := range pieces {
			smaller := 68 + roll.Intn(mtu-67)
			checkPieces(t, q, smaller, checkSplit(t, q, smaller))
		}
	}
}

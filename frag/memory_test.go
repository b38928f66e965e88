package frag

import (
	"bytes"
	"fmt"
	"math/rand"
	"slices"
	"testing"

	"weft/api"
)

// roomy is the packet with spare room behind its lists; all is that memory.
func roomy(p api.Packet) (q api.Packet, all [][]byte) {
	lay := func(b []byte) []byte {
		block := append(slices.Clone(b), fill(64, 0xa5)...)
		all = append(all, block)
		return block[:len(b)]
	}
	p.Head.Opts, p.Body = lay(p.Head.Opts), lay(p.Body)
	return p, all
}

// scribble writes over a list and its spare room.
func scribble(b []byte) {
	for i := range b[:cap(b)] {
		b[:cap(b)][i] = 0x5a
	}
}

func scribblePacket(p api.Packet) {
	scribble(p.Head.Opts)
	scribble(p.Body)
}

func clonePackets(list []api.Packet) []api.Packet {
	var made []api.Packet
	for _, p := range list {
		made = append(made, clonePacket(p))
	}
	return made
}

// checkApart writes over one list of an answer after the other: none of the others changes.
func checkApart(t *testing.T, name string, list []api.Packet) {
	t.Helper()
	var lists [][]byte
	for _, p := range list {
		lists = append(lists, p.Head.Opts, p.Body)
	}
	for i, b := range lists {
		var before [][]byte
		for _, other := range lists {
			before = append(before, slices.Clone(other))
		}
		scribble(b)
		for j := range lists {
			if i != j && !bytes.Equal(lists[j], before[j]) {
				t.Fatalf("P0.3: %s: list %d shares memory with list %d", name, i, j)
			}
		}
	}
}

func TestP0_3SplitMemory(t *testing.T) {
	for _, opts := range [][]byte{nil, copiedOpts(), plainOpts(), mixedOpts()} {
		for _, length := range []int{0, 8, 9, 48, 49, 200} {
			for _, mtu := range []int{67, 68, 100, 1500} {
				p := withOpts(packet(0, false, run(1, length)), opts...)
				want, _ := modelSplit(p, mtu)
				want = clonePackets(want)
				q, all := roomy(p)
				before := clonePackets([]api.Packet{{Head: api.Head{Opts: all[0]}, Body: all[1]}})[0]
				got, _ := Split(q, mtu)
				if !bytes.Equal(all[0], before.Head.Opts) || !bytes.Equal(all[1], before.Body) {
					t.Fatalf("P0.3: Split changes %s", brief(p))
				}
				scribble(all[0])
				scribble(all[1])
				if !slices.EqualFunc(got, want, samePacket) {
					t.Fatalf("P0.3: Split(%s, %d) answers what was handed in", brief(p), mtu)
				}
				checkApart(t, "Split", got)
				for i := range got[:cap(got)] {
					got[:cap(got)][i] = packet(8, true, run(0, 8))
				}
				if again, _ := Split(p, mtu); !slices.EqualFunc(again, want, samePacket) {
					t.Fatalf("P0.3: Split(%s, %d) answers memory twice", brief(p), mtu)
				}
			}
		}
	}
}

// Options and body of what is handed in may be one piece of memory.
func TestP0_3ListsThatShare(t *testing.T) {
	block := fill(100, 1)
	p := packet(0, true, block[:16])
	p.Head.Opts = block[:8]
	got, err := Split(p, 68)
	if err != api.OK {
		t.Fatal(err)
	}
	checkApart(t, "Split", got)
	a := made(t, 1, 5)
	a.Add(p)
	scribble(block)
	whole, err := a.Add(packet(16, false, nil))
	if want := withOpts(packet(0, false, fill(16, 1)), fill(8, 1)...); err != api.OK || !samePacket(whole, want) {
		t.Fatalf("P0.3: Add = %s, %d", brief(whole), err)
	}
	checkApart(t, "Add", []api.Packet{whole})
}

// The piece that makes a datagram whole may be the one with its header.
func TestP0_3LastPieceIsTheFirst(t *testing.T) {
	for _, length := range []int{8, 16} {
		a := made(t, 1, 5)
		a.Add(packet(8, false, run(8, 8)))
		given, all := roomy(withOpts(packet(0, true, run(0, length)), mixedOpts()...))
		got, err := a.Add(given)
		scribble(all[0])
		scribble(all[1])
		if want := withOpts(packet(0, false, run(0, 16)), mixedOpts()...); err != api.OK || !samePacket(got, want) {
			t.Errorf("P0.3: Add = %s, %d, want %s", brief(got), err, brief(want))
		}
	}
}

// Whoever writes over what was handed in, and over what was answered, changes nothing that comes later.
func TestP0_3AddMemory(t *testing.T) {
	roll := dice()
	for range 200 {
		p := newPair(t, 3, 5)
		var kept, answers []api.Packet
		for range 60 {
			q := somePiece(roll)
			given, all := roomy(q)
			want, wantErr := p.model.add(q)
			got, err := p.real.Add(given)
			if err != wantErr || !samePacket(got, want) {
				t.Fatalf("P0.3: Add(%s) = %s, %d, want %s, %d", brief(q), brief(got), err, brief(want), wantErr)
			}
			if !samePacket(given, q) || !bytes.Equal(all[1][len(q.Body):], fill(64, 0xa5)) || !bytes.Equal(all[0][len(q.Head.Opts):], fill(64, 0xa5)) {
				t.Fatalf("P0.3: Add changes %s to %s", brief(q), brief(given))
			}
			answers, kept = append(answers, got), append(kept, clonePacket(got))
			scribble(all[0])
			scribble(all[1])
			if !samePacket(got, kept[len(kept)-1]) {
				t.Fatalf("P0.3: Add(%s) answers what was handed in", brief(q))
			}
			list := p.real.Held()
			for i := range list[:cap(list)] {
				list[:cap(list)][i] = api.Hold{Bytes: -1}
			}
			p.checkState()
		}
		if !slices.EqualFunc(answers, kept, samePacket) {
			t.Fatal("P0.3: an answer changed behind its call")
		}
		checkApart(t, "Add", answers)
		p.checkState()
	}
}

func TestP0_3AnswersAreNotKept(t *testing.T) {
	a := made(t, 2, 5)
	first := withOpts(packet(0, true, run(0, 8)), mixedOpts()...)
	for range 3 {
		a.Add(first)
		a.Add(withID(packet(8, true, run(50, 8)), 8))
		got, err := a.Add(packet(8, false, run(8, 3)))
		want := withOpts(packet(0, false, run(0, 11)), mixedOpts()...)
		if err != api.OK || !samePacket(got, want) {
			t.Fatalf("P0.3: Add = %s, %d", brief(got), err)
		}
		scribblePacket(got)
		whole, _ := a.Add(want)
		scribblePacket(whole)
		checkInside(t, a)
	}
}

// inside tells all that an assembler keeps.
func inside(a *Asm) string {
	var all []string
	for _, h := range a.Held() {
		d := a.held[key{src: h.Src, dst: h.Dst, proto: h.Proto, id: h.ID}]
		covered := make([]byte, len(d.have))
		for i, yes := range d.have {
			if yes {
				covered[i] = 1
			}
		}
		all = append(all, fmt.Sprint(h, d.number, d.head, d.length, d.bytes, string(d.body), string(covered)))
	}
	id, at, err := a.timers.Next()
	return fmt.Sprint(all, a.room, a.life, a.now, a.last, a.timers.Len(), id, at, err)
}

func TestP0_2RefusedChangesNothing(t *testing.T) {
	roll := dice()
	seen := map[api.Errno]int{}
	for range 200 {
		a := made(t, 4, 6)
		for range 100 {
			q := somePiece(roll)
			before := inside(a)
			got, err := a.Add(q)
			if err != api.OK && !(samePacket(got, api.Packet{}) && got.Body == nil && got.Head.Opts == nil) {
				t.Fatalf("P0.2: Add(%s) = %s, %d", brief(q), brief(got), err)
			}
			if err != api.OK && err != api.ErrMore {
				seen[err]++
				if inside(a) != before {
					t.Fatalf("P0.2: Add(%s) was refused (%d) and changed %s to %s", brief(q), err, before, inside(a))
				}
			}
			before = inside(a)
			if n := a.Tick(-1 - int64(roll.Intn(9))); n != 0 || inside(a) != before {
				t.Fatalf("P5.4: Tick back: %d, %s to %s", n, before, inside(a))
			}
		}
	}
	for _, err := range []api.Errno{api.ErrClash, api.ErrOff, api.ErrOpts} {
		if seen[err] < 300 {
			t.Errorf("the test's own pieces came to error %d only %d times", err, seen[err])
		}
	}
}

func TestP0_2TooLongChangesNothing(t *testing.T) {
	a := made(t, 4, 6)
	a.Add(withOpts(packet(0, true, run(0, 65504)), 1, 1, 1, 1))
	before := inside(a)
	if _, err := a.Add(withTTL(packet(65504, false, run(0, 8)), 200)); err != api.ErrBig || inside(a) != before {
		t.Errorf("P5.3: a datagram too long: %d, %v", err, inside(a) == before)
	}
}

func TestP5_5HeldChangesNothing(t *testing.T) {
	a := made(t, 9, 6)
	for id := range uint16(9) {
		a.Add(withID(packet(8, true, run(0, 8)), id))
	}
	before := inside(a)
	a.Held()
	if inside(a) != before {
		t.Errorf("P5.5: Held changed %s to %s", before, inside(a))
	}
}

// wild is a packet of any numbers.
func wild(roll *rand.Rand) api.Packet {
	odd := []int{least, least + 8, -65536, -8, -1, 0, 1, 7, 8, 65520, 65527, 65528, 65529, 65536, most - 7, most}
	p := api.Packet{Head: api.Head{Off: odd[roll.Intn(len(odd))], MF: roll.Intn(2) == 0, DF: roll.Intn(2) == 0, TTL: byte(roll.Int()), ID: uint16(roll.Intn(3))}}
	sizes := []int{0, 1, 7, 8, 9, 48, 65467, 65512, 65515, 65516, 65535, 65536, 70000}
	p.Body = run(byte(roll.Int()), sizes[roll.Intn(len(sizes))])
	p.Head.Opts = run(byte(roll.Int()), roll.Intn(50))
	if roll.Intn(2) == 0 {
		p.Head.Opts = someOptions(roll)
	}
	return p
}

func TestP0_1AnyArguments(t *testing.T) {
	roll := dice()
	mtus := []int{least, -1, 0, 20, 67, 68, 69, 76, 1500, 65534, 65535, 65536, most}
	ticks := []int64{least, -1, 0, 1, 2, 200, 1 << 40, most}
	for range 30 {
		p := newPair(t, 2, 1<<40)
		for range 40 {
			q := wild(roll)
			checkSplit(t, q, mtus[roll.Intn(len(mtus))])
			p.add(q)
			if roll.Intn(8) == 0 {
				n := ticks[roll.Intn(len(ticks))]
				if got, want := p.real.Tick(n), p.model.tick(n); got != want {
					t.Fatalf("P5.4: Tick(%d) = %d, want %d", n, got, want)
				}
			}
		}
	}
	big := packet(0, false, make([]byte, 1<<24))
	checkSplitError(t, big, 1500, api.ErrOff)
	if _, err := made(t, 1, 1).Add(big); err != api.ErrOff {
		t.Errorf("P5.3: Add of 2^24 bytes: %d", err)
	}
}

// Two objects that are told the same answer the same, whatever the order in which their maps are gone through.
func TestP0_5SameCallsSameAnswers(t *testing.T) {
	play := func() string {
		roll := dice()
		a := made(t, 20, 9)
		var told []any
		for range 4000 {
			q := somePiece(roll)
			q.Head.ID = uint16(roll.Intn(60))
			p, err := a.Add(q)
			told = append(told, p, err)
			if roll.Intn(20) == 0 {
				told = append(told, a.Tick(int64(roll.Intn(4))), a.Held())
			}
		}
		return fmt.Sprint(told...)
	}
	first := play()
	for range 5 {
		if play() != first {
			t.Fatal("P0.5: the same calls were answered otherwise")
		}
	}
}

// A nil list is the same as an empty one.
func TestP0_4NilAndEmpty(t *testing.T) {
	for _, empty := range [][]byte{nil, {}} {
		p := newPair(t, 1, 5)
		p.whole(packet(0, false, empty), packet(0, false, nil))
		p.more(withOpts(packet(8, false, empty), empty...))
		p.whole(withOpts(packet(0, true, run(0, 8)), empty...), packet(0, false, run(0, 8)))
		if l := checkSplit(t, withOpts(packet(0, false, empty), empty...), 68); len(l) != 1 {
			t.Errorf("P0.4: %d pieces", len(l))
		}
	}
}

package flow

import (
	"bytes"
	"slices"
	"testing"

	"weft/api"
)

// roomy is the packet with spare room behind its lists; all is that memory.
func roomy(p api.Packet) (q api.Packet, all [][]byte) {
	lay := func(b []byte) []byte {
		block := append(bytes.Clone(b), bytes.Repeat([]byte{0xa5}, 64)...)
		all = append(all, block)
		return block[:len(b)]
	}
	p.Head.Opts, p.Body = lay(p.Head.Opts), lay(p.Body)
	return p, all
}

func clones(all [][]byte) [][]byte {
	var made [][]byte
	for _, b := range all {
		made = append(made, bytes.Clone(b))
	}
	return made
}

// What is handed in is not changed, its spare room neither; and written over, it changes nothing that the table keeps.
func TestP21_8HandedIn(t *testing.T) {
	r := dice()
	for range 60 {
		b := begun(t, 6)
		for range 100 {
			p := smallPacket(r)
			p.Head.Opts = pick(r, nil, []byte{1, 1, 1, 0}, []byte{0x83, 4, 9, 9})
			q, all := roomy(p)
			was := clones(all)
			stays := func(call string) {
				t.Helper()
				if !slices.EqualFunc(all, was, bytes.Equal) || !bytes.Equal(q.Body, p.Body) || !bytes.Equal(q.Head.Opts, p.Head.Opts) {
					t.Fatalf("P21.8: %s changes what is handed in", call)
				}
			}
			u, err := Of(q)
			stays("Of")
			if want, wantErr := modelOf(p); u != want || err != wantErr {
				t.Fatalf("P21.1: Of(%v) = %v, %d", p, u, err)
			}
			b.look(q)
			stays("Look")
			b.open(u, turned(u), q, 3)
			stays("Open")
			b.move(q, 5)
			stays("Move")
			for _, block := range all {
				for i := range block {
					block[i] = 0x5a
				}
			}
			b.check()
		}
	}
}

// Options and body of what is handed in may be one piece of memory.
func TestP21_8ListsThatShare(t *testing.T) {
	block := append([]byte{1, 1, 1, 1}, run(40)...)
	p := bare(tup(hostA, hostB, 17, 0, 0), block...)
	p.Head.Opts, p.Body = block[:4], block[:24]
	was := bytes.Clone(block)
	b := begun(t, 1)
	u := tup(hostA, hostB, 17, 0x0101, 0x0101)
	if err := b.open(u, turned(u), p, 0); err != api.OK || !bytes.Equal(block, was) {
		t.Errorf("P21.8: Open = %d, and left %v", err, block)
	}
	b.found(p, api.TThere, false, u)
	clear(block)
	b.found(of(u, 0), api.TThere, false, u)
}

// spoil writes over a list and its spare room, and appends to it.
func spoil(list []api.Flow) {
	whole := list[:cap(list)]
	for i := range whole {
		whole[i] = api.Flow{There: tup(1, 1, 1, 1, 1), State: 77, Until: least}
	}
	_ = append(list, api.Flow{State: 78})
}

// What List and Due answer is the caller's own: written over and appended to, it changes nothing that is kept, and no other answer.
func TestP21_7ListsAreTheCallersOwn(t *testing.T) {
	for n := range len(manyTuples()) {
		b := begun(t, 100).opens(0, manyTuples()[:n]...)
		one, two := b.x.List(), b.x.List()
		was := slices.Clone(two)
		spoil(one)
		if !slices.Equal(two, was) {
			t.Errorf("P21.7: another list became %v", two)
		}
		b.check()
		two = append(two, api.Flow{State: 79})
		gone := b.due(30)
		goneWas := slices.Clone(gone)
		b.check()
		spoil(b.x.List())
		b.check()
		if !slices.Equal(gone, goneWas) || !slices.Equal(two[:n], was) || two[n].State != 79 {
			t.Errorf("P21.7: lists became %v and %v", gone, two)
		}
		spoil(gone)
		b.check().opens(1, thereOf(goneWas)...).check()
		b.due(31)
		b.due(1000)
		b.check()
	}
}

// A list stays as it was answered, whatever comes behind it.
func TestP21_7ListsStay(t *testing.T) {
	b := begun(t, 100).opens(0, manyTuples()...)
	list := b.x.List()
	was := slices.Clone(list)
	for _, u := range manyTuples() {
		b.move(of(turned(u), 18), 9)
	}
	gone := b.due(80)
	goneWas := slices.Clone(gone)
	b.opens(50, thereOf(gone)...)
	b.due(most)
	b.opens(60, manyTuples()...)
	if !slices.Equal(list, was) || !slices.Equal(gone, goneWas) {
		t.Errorf("P21.7: lists became %v and %v", list, gone)
	}
}

// Flows that come and go leave nothing behind.
func TestP21_8NothingStays(t *testing.T) {
	b := begun(t, 5)
	for i := range 2000 {
		u := tup(hostA, hostB, 17, uint16(i), 53)
		b.opens(int64(i), u)
		if i >= 4 {
			if list := b.due(int64(i) + 26); len(list) != 1 {
				t.Fatalf("P21.7: %v", list)
			}
		}
		b.check()
	}
	b.due(most)
	b.check()
	if len(b.x.flows) != 0 || len(b.x.numbers) != 0 || b.x.timers.Len() != 0 {
		t.Errorf("P21.8: kept are %v, %v", b.x.flows, b.x.numbers)
	}
}

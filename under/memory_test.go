package under

import (
	"bytes"
	"slices"
	"testing"

	"weft/api"
)

// writeOver writes over a list, its spare room too, and appends to it.
func writeOver[E any](list []E, e E) {
	whole := list[:cap(list)]
	for i := range whole {
		whole[i] = e
	}
	_ = append(list, e)
}

// writeOverAll writes over each packet's bytes, then over the list.
func writeOverAll(list []api.Sent) {
	for _, s := range list {
		writeOver(s.Bytes, 0xee)
	}
	writeOver(list, sent(77, 7, 7))
}

// roomy is packets of many lengths, each with so much spare room, in a list with spare room.
func roomy(room int) []api.Sent {
	list := make([]api.Sent, 0, 12+room)
	for i, n := range []int{0, 1, 2, 7, 8, 9, 63, 64, 1500, 65535} {
		b := append(run(n), bytes.Repeat([]byte{0x55}, room)...)
		list = append(list, api.Sent{To: api.Addr(i), Bytes: b[:n]})
	}
	return list
}

// What is handed in is not changed, its spare room neither, whatever comes behind it.
func TestP18_8HandedInStays(t *testing.T) {
	for _, room := range []int{0, 1, 100} {
		for _, limit := range []int{3, 30} {
			list := roomy(room)
			var was [][]byte
			for _, s := range list {
				was = append(was, bytes.Clone(s.Bytes[:cap(s.Bytes)]))
			}
			told := packetsOf(list[:cap(list)])
			n, _ := New(limit)
			k, _ := n.Put(list...)
			for i := range k {
				n.Copy(i)
				for at := range 9 {
					n.Spoil(i, at, 0xff)
				}
			}
			writeOverAll(n.List())
			for range limit {
				s, _ := n.Take(0)
				writeOver(s.Bytes, 0xee)
			}
			if got := packetsOf(list[:cap(list)]); !slices.Equal(got, told) {
				t.Errorf("P18.8: what was handed in became %s, was %s", brief(got), brief(told))
			}
			for i, s := range list {
				if !bytes.Equal(s.Bytes[:cap(s.Bytes)], was[i]) {
					t.Errorf("P18.8: packet %d became %x, was %x", i, s.Bytes[:cap(s.Bytes)], was[i])
				}
			}
		}
	}
}

// What is handed in is not kept: written over and appended to, it changes nothing in flight.
func TestP18_8HandedInIsNotKept(t *testing.T) {
	for _, room := range []int{0, 1, 100} {
		b := begun(t, 30)
		list := roomy(room)
		b.joins(list...).is(b.copy(3), api.OK)
		writeOverAll(list)
		b.check()
		list = roomy(room)
		b.joins(list[:4]...)
		for i, s := range list {
			list[i].Bytes = append(s.Bytes[:len(s.Bytes)/2], 0xdd)
		}
		b.check()
	}
}

// The same bytes handed in for several packets: each has bytes of its own.
func TestP18_8SameBytesTwice(t *testing.T) {
	whole := []byte{1, 2, 3, 4}
	b := begun(t, 4)
	b.joins(api.Sent{To: 1, Bytes: whole}, api.Sent{To: 2, Bytes: whole}, api.Sent{To: 3, Bytes: whole[1:3]}, api.Sent{To: 4, Bytes: whole})
	b.is(b.spoil(1, 1, 0xff), api.OK).is(b.spoil(2, 1, 0xff), api.OK)
	b.has(sent(1, 1, 2, 3, 4), sent(2, 1, 0xfd, 3, 4), sent(3, 2, 0xfc), sent(4, 1, 2, 3, 4))
	if string(whole) != "\x01\x02\x03\x04" {
		t.Errorf("P18.8: what was handed in became %x", whole)
	}
}

// What List and Take answer may be handed in again, and is as any other packet.
func TestP18_8AnswersHandedIn(t *testing.T) {
	b := filled(t, 20, 4)
	list := b.n.List()
	b.joins(list...).joins(list...)
	b.is(b.spoil(5, 0, 0xff), api.OK).is(b.spoil(0, 0, 1), api.OK)
	s, _ := b.take(5)
	b.joins(s, s).is(b.spoil(12, 0, 3), api.OK)
	writeOver(s.Bytes, 0xee)
	writeOverAll(list)
	b.check()
}

// What List answers is the caller's own, each of its lists: written over and appended to, it changes nothing in flight and no other answer.
func TestP18_8ListIsTheCallersOwn(t *testing.T) {
	for _, n := range []int{0, 1, 2, 3, 4, 5, 100, 4096} {
		b := filled(t, 4096, n)
		one, two := b.n.List(), b.n.List()
		was := packetsOf(two)
		writeOverAll(one)
		if !slices.Equal(packetsOf(two), was) {
			t.Errorf("P18.8: another list became %s", brief(packetsOf(two)))
		}
		b.check()
		two = append(two, sent(88, 8))
		for i := range n {
			two[i].Bytes = append(two[i].Bytes, 0x99)
		}
		b.check()
		b.put(sent(5, 5))
		b.check()
		if two[n].To != 88 || string(two[n].Bytes) != "\x08" {
			t.Errorf("P18.8: what was appended to a list became %v", two[n])
		}
		for i := range n {
			if got := string(two[i].Bytes); got != was[i].bytes+"\x99" {
				t.Fatalf("P18.8: packet %d of a list became %x", i, got)
			}
		}
	}
}

// No list of one answer shares memory with another one of it.
func TestP18_8ListsApart(t *testing.T) {
	b := begun(t, 20)
	b.joins(roomy(5)...).is(b.copy(4), api.OK).is(b.copy(4), api.OK)
	for i := range b.m.flight {
		list := b.n.List()
		writeOver(list[i].Bytes, 0xee)
		for k, s := range list {
			if k != i && packetOf(s) != b.m.flight[k] {
				t.Errorf("P18.8: packet %d shares memory with packet %d", k, i)
			}
		}
		b.check()
	}
}

// A list stays as it was answered, whatever comes behind it.
func TestP18_8ListStays(t *testing.T) {
	b := filled(t, 9, 7)
	list := b.n.List()
	was := packetsOf(list)
	b.is(b.spoil(0, 0, 0xff), api.OK).is(b.spoil(6, 0, 1), api.OK).is(b.lose(3), api.OK).is(b.copy(0), api.OK)
	b.joins(sent(1, 1), sent(2, 2))
	for range 9 {
		b.take(0)
	}
	b.joins(sent(3, 3), sent(4, 4), sent(5, 5))
	if !slices.Equal(packetsOf(list), was) {
		t.Errorf("P18.8: a list became %s, was %s", brief(packetsOf(list)), brief(was))
	}
}

// What Take answers is the caller's own: written over and appended to, it changes nothing in flight.
func TestP18_8TakenIsTheCallersOwn(t *testing.T) {
	for _, room := range []int{0, 1, 100} {
		for i := range 10 {
			b := begun(t, 40)
			list := roomy(room)
			b.joins(list...).joins(list...).is(b.copy(i), api.OK)
			told := b.list()
			s, _ := b.take(i)
			writeOver(s.Bytes, 0xee)
			b.check()
			if packetOf(told[i]) != packetOf(list[i]) {
				t.Errorf("P18.8: what List told of packet %d became %x", i, told[i].Bytes)
			}
			b.joins(list[0], list[9])
			for range 22 {
				s, _ := b.take(0)
				writeOver(s.Bytes, 0xdd)
				_ = append(s.Bytes, 1, 2, 3)
				b.check()
			}
		}
	}
}

// What Take answered stays, whatever comes behind it.
func TestP18_8TakenStays(t *testing.T) {
	b := filled(t, 6, 6)
	var taken []api.Sent
	var was []packet
	for k := range 30 {
		s, err := b.take(k % 6)
		if err != api.OK {
			t.Fatalf("P18.3: %d", err)
		}
		taken, was = append(taken, s), append(was, packetOf(s))
		b.is(b.spoil(k%5, 0, byte(k+1)), api.OK)
		if k%2 == 0 {
			b.is(b.copy(k%5), api.OK)
		} else {
			b.joins(sent(api.Addr(k), run(k)...))
		}
		if !slices.Equal(packetsOf(taken), was) {
			t.Fatalf("P18.8: what was taken became %s, was %s", brief(packetsOf(taken)), brief(was))
		}
	}
}

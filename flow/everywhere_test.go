package flow

import (
	"bytes"
	"fmt"
	"math/rand"
	"slices"
	"sync"
	"testing"

	"weft/api"
	"weft/icmp"
)

// wild is a packet of any numbers, of which every one is often at an edge.
func wild(r *rand.Rand) api.Packet {
	h := api.Head{TOS: byte(r.Int()), ID: uint16(r.Int()), DF: r.Intn(2) == 0, MF: r.Intn(4) == 0, TTL: byte(r.Int())}
	h.Src, h.Dst = api.Addr(r.Uint32()), pick(r, hostA, hostB, 0, 1<<32-1, api.Addr(r.Uint32()))
	h.Proto = pick(r, 1, 1, 6, 6, 17, 17, 0, 47, byte(r.Int()))
	if r.Intn(4) == 0 {
		h.Off = pick(r, least, -65536, -8, -1, 1, 4, 8, 8, 16, 1024, 65520, 65528, 65529, 65536, most)
	}
	if r.Intn(4) == 0 {
		h.Opts = run(r.Intn(48))
	}
	if r.Intn(4) == 0 {
		h.Opts = pick(r, []byte{1, 1, 1, 1}, []byte{0, 0, 0, 0}, []byte{0x83, 4, 9, 9}, bytes.Repeat([]byte{1}, 40))
	}
	n := pick(r, 0, 1, 7, 8, 8, 9, 13, 14, 19, 20, 20, 21, 24, 64, 1000)
	if r.Intn(12) == 0 {
		n = pick(r, 65514, 65515, 65516, 65535, 65536, 70000)
	}
	body := make([]byte, n)
	r.Read(body)
	if h.Proto == 1 {
		copy(body, pick(r, []byte{8, 0}, []byte{0, 0}, []byte{8, 1}, []byte{3, 1}, []byte{}))
	}
	return api.Packet{Head: h, Body: body}
}

// small is one of few tuples, so that they often come again.
func small(r *rand.Rand) api.Tuple {
	from := uint16(5 + r.Intn(2))
	u := tup(pick(r, hostA, hostB), pick(r, hostA, hostB), pick[byte](r, 1, 6, 6, 17), from, from)
	if u.Proto != 1 {
		u.DstPort = uint16(5 + r.Intn(2))
	}
	return u
}

func smallNow(r *rand.Rand) int64 {
	if r.Intn(30) == 0 {
		return pick(r, int64(least), least+1, -1, most-432000, most-181, most-180, most-1, most)
	}
	return int64(r.Intn(300))
}

// smallPacket is a packet of one of few tuples, a fault about one, or one without a tuple.
func smallPacket(r *rand.Rand) api.Packet {
	p := of(small(r), pick[byte](r, 2, 2, 16, 16, 18, 18, 17, 1, 4, 0, byte(r.Int())))
	if p.Head.Proto == 1 && r.Intn(2) == 0 {
		p.Body[0] = 0
	}
	switch r.Intn(12) {
	case 0:
		p.Head.Off = 8
	case 1:
		p.Body = p.Body[:7]
	case 2, 3, 4:
		if f, err := icmp.Fault(p, pick[byte](r, 3, 11, 12), byte(r.Intn(2)), 0, pick(r, hostA, hostC)); err == api.OK {
			return f
		}
	}
	return p
}

// step does one thing that dice say to a table and its model.
func step(r *rand.Rand, b both) {
	b.t.Helper()
	now := smallNow(r)
	switch r.Intn(12) {
	case 0, 1, 2:
		u, p := small(r), smallPacket(r)
		if got, err := Of(p); err == api.OK && r.Intn(8) > 0 {
			u = got
		}
		back := turned(u)
		if r.Intn(3) == 0 {
			back = small(r)
		}
		b.open(u, back, p, now)
	case 3, 4, 5, 6, 7:
		b.move(smallPacket(r), now)
	case 8, 9:
		b.look(smallPacket(r))
	case 10:
		b.list()
	case 11:
		if r.Intn(2) == 0 {
			b.due(now)
		}
	}
}

func TestP21_6ByDice(t *testing.T) {
	r := dice()
	for _, limit := range []int{1, 2, 3, 8, 40} {
		for range 60 {
			b := begun(t, limit)
			for i := range 300 {
				step(r, b)
				if i%10 == 0 {
					b.check()
				}
			}
		}
	}
}

// Two tables in turns, and more: none knows of another one.
func TestP21_2InTurns(t *testing.T) {
	r := dice()
	list := []both{begun(t, 4), begun(t, 4), begun(t, 2), begun(t, 65536)}
	for range 4000 {
		step(r, list[r.Intn(len(list))])
		for _, b := range list {
			b.list()
		}
	}
	for _, b := range list {
		b.check()
	}
}

// Any arguments: every call ends and none panics, and answers as the model does.
func TestP0_1AnyArguments(t *testing.T) {
	r := dice()
	nows := []int64{least, least + 1, -432000, -1, 0, 1, 29, 30, 432000, most - 432000, most - 30, most - 1, most}
	tuples := []api.Tuple{{}, tup(0, 0, 1, 0, 0), tup(1<<32-1, 1<<32-1, 255, 65535, 65535), tup(hostA, hostB, 6, 5, 80), tup(hostA, hostB, 47, 0, 0)}
	for range 100 {
		b := begun(t, 1+r.Intn(3))
		for range 60 {
			p, now := wild(r), nows[r.Intn(len(nows))]
			u, _ := Of(p)
			if r.Intn(6) == 0 {
				u = tuples[r.Intn(len(tuples))]
			}
			b.look(p)
			b.move(p, now)
			b.open(u, pick(r, turned(u), tuples[0], tuples[r.Intn(len(tuples))], small(r)), p, now)
			b.look(p)
			b.move(p, nows[r.Intn(len(nows))])
			if r.Intn(10) == 0 {
				b.due(nows[r.Intn(len(nows))])
			}
		}
		b.check()
	}
}

// Faults of any bytes.
func TestP0_1AnyFaults(t *testing.T) {
	r := dice()
	b := begun(t, 9).opens(0, tup(hostA, hostB, 17, 5, 5), tup(hostA, hostB, 6, 5, 6), tup(hostA, hostB, 1, 6, 6))
	seen := map[int]int{}
	for range 20000 {
		p := smallPacket(r)
		f, err := icmp.Fault(p, 3, 1, 0, hostC)
		if err != api.OK {
			continue
		}
		for range 1 + r.Intn(2) {
			switch r.Intn(4) {
			case 0: // a byte turned
				f.Body[8+r.Intn(len(f.Body)-8)] ^= byte(1 << r.Intn(8))
			case 1: // cut, or with more behind
				f.Body = append(f.Body, run(r.Intn(20))...)[:r.Intn(len(f.Body)+1)]
			case 2:
				f.Body = append(f.Body, run(r.Intn(9))...)
			}
			if len(f.Body) < 9 {
				break
			}
		}
		if c, err := icmp.Parse(f.Body); err == api.ErrSum || err == api.OK { // the message's own sum is made right
			if err == api.ErrSum {
				c = api.Control{Type: f.Body[0], Code: f.Body[1], Body: f.Body[8:]}
			}
			f.Body, _ = icmp.Build(c)
		}
		seen[b.look(f).Kind]++
		if got, err := b.move(f, 5); err != api.ErrFlow || got != (api.Flow{}) {
			t.Fatalf("P21.5: Move of a fault: %v, %d", got, err)
		}
	}
	b.check()
	if seen[api.TAbout] < 300 || seen[api.TNone] < 300 {
		t.Errorf("the test's own faults are about %v", seen)
	}
}

// A nil list is the same as an empty one.
func TestP0_4NilAndEmpty(t *testing.T) {
	for _, empty := range [][]byte{nil, {}} {
		b := begun(t, 2)
		p := udp(hostA, hostB, 5, 53)
		p.Head.Opts = empty
		u, err := Of(p)
		if err != api.OK || u != tup(hostA, hostB, 17, 5, 53) {
			t.Errorf("P0.4: Of = %v, %d", u, err)
		}
		if err := b.open(u, turned(u), p, 0); err != api.OK {
			t.Errorf("P0.4: Open = %d", err)
		}
		if k := b.look(p); k.Kind != api.TThere {
			t.Errorf("P0.4: Look = %v", k)
		}
		p.Body = empty
		refused(t, p, api.ErrShort)
		p.Head.Proto = 47
		refused(t, p, api.ErrTuple)
	}
}

// Whatever the order in which maps are gone through, and in whichever goroutine: the same calls are answered alike.
func TestP0_5SameCallsSameAnswers(t *testing.T) {
	play := func() string {
		r := dice()
		x, _ := New(30)
		var told []any
		for range 1500 {
			p, now := smallPacket(r), smallNow(r)
			u, _ := Of(p)
			f, err := x.Move(p, now)
			told = append(told, u, x.Look(p), x.Open(u, Back(u), p, now), f, err)
			if r.Intn(8) == 0 {
				told = append(told, x.List(), x.Due(now))
			}
		}
		return fmt.Sprint(told...)
	}
	var wg sync.WaitGroup
	answers := make([]string, 8)
	for i := range answers {
		wg.Go(func() { answers[i] = play() })
	}
	wg.Wait()
	for _, a := range answers {
		if a != answers[0] {
			t.Fatal("P0.5: the same calls were answered otherwise")
		}
	}
}

// Flows that were opened in other orders are answered alike.
func TestP0_5AnyOrderOfOpening(t *testing.T) {
	r := dice()
	tuples := manyTuples()
	for range 40 {
		r.Shuffle(len(tuples), func(i, k int) { tuples[i], tuples[k] = tuples[k], tuples[i] })
		b := begun(t, len(tuples)).opens(7, tuples...)
		list := b.list()
		if !slices.EqualFunc(list, manyTuples(), func(f api.Flow, u api.Tuple) bool { return f.There == u }) {
			t.Fatalf("P21.7: List = %v", list)
		}
		b.due(36)
		b.due(37)
		b.due(127)
	}
}

package frag

import (
	"math/rand"
	"slices"
	"testing"

	"weft/api"
)

// cutTo is the pieces of a packet.
func cutTo(t *testing.T, p api.Packet, mtu int) []api.Packet {
	t.Helper()
	l, err := Split(p, mtu)
	if err != api.OK {
		t.Fatalf("P5.1: Split(%s, %d): %d", brief(p), mtu, err)
	}
	return l
}

// coverAll tells when the pieces, in their order, have brought the last byte that was wanting of a body of that length; len(pieces), if they never do.
func coverAll(length int, pieces []api.Packet) int {
	covered := make([]bool, length)
	for i, q := range pieces {
		for at := range q.Body {
			covered[q.Head.Off+at] = true
		}
		if !slices.Contains(covered, false) {
			return i
		}
	}
	return len(pieces)
}

// checkComing adds pieces of a packet: each answers ErrMore, but for the one that brings the last byte, and what comes behind that begins anew.
func checkComing(t *testing.T, a *Asm, p api.Packet, pieces []api.Packet) {
	t.Helper()
	for len(pieces) > 0 {
		last := coverAll(len(p.Body), pieces)
		for i, q := range pieces[:min(last+1, len(pieces))] {
			got, err := a.Add(q)
			if i < last && (err != api.ErrMore || !samePacket(got, api.Packet{})) {
				t.Fatalf("P5.6: piece %d (%s) of %s: %s, %d, want ErrMore", i, brief(q), brief(p), brief(got), err)
			}
			if i == last && (err != api.OK || !samePacket(got, p)) {
				t.Fatalf("P5.6: the last piece (%s) of %s: %s, %d", brief(q), brief(p), brief(got), err)
			}
		}
		pieces = pieces[min(last+1, len(pieces)):]
	}
	checkInside(t, a)
}

// eachOrder calls with each order of the numbers 0 to size - 1.
func eachOrder(size int, call func(order []int)) {
	var lay func(order []int)
	lay = func(order []int) {
		if len(order) == size {
			call(order)
			return
		}
		for i := range size {
			if !slices.Contains(order, i) {
				lay(append(slices.Clone(order), i))
			}
		}
	}
	lay(nil)
}

func TestP5_6AllOrders(t *testing.T) {
	for _, opts := range [][]byte{nil, mixedOpts(), plainOpts()} {
		for _, length := range []int{49, 96, 97, 100, 144, 145, 200} {
			p := withOpts(packet(0, false, run(5, length)), opts...)
			pieces := cutTo(t, p, 68)
			if len(pieces) > 6 {
				t.Fatalf("the test's own packet has %d pieces", len(pieces))
			}
			a := made(t, 1, 5)
			eachOrder(len(pieces), func(order []int) {
				var coming []api.Packet
				for _, i := range order {
					coming = append(coming, pieces[i])
				}
				checkComing(t, a, p, coming)
				if len(a.Held()) != 0 {
					t.Fatalf("P5.6: %v is left", a.Held())
				}
			})
		}
	}
}

// Two ways of cutting the same packet, mixed: their pieces overlap.
func TestP5_6AllOrdersOfTwoCuts(t *testing.T) {
	p := withOpts(packet(0, false, run(5, 125)), 0x82, 3, 9, 1)
	pieces := append(cutTo(t, p, 90), cutTo(t, p, 112)...)
	if len(pieces) != 4 {
		t.Fatalf("the test's own packet has %d pieces", len(pieces))
	}
	pieces = append(pieces, cutTo(t, pieces[2], 68)[1], cutTo(t, pieces[1], 68)[1])
	eachOrder(len(pieces), func(order []int) {
		var coming []api.Packet
		for _, i := range order {
			coming = append(coming, pieces[i])
		}
		checkComing(t, made(t, 1, 5), p, coming)
	})
}

// manyCuts is pieces of a packet, and pieces of these, cut again and again to any sizes.
func manyCuts(t *testing.T, roll *rand.Rand, p api.Packet) []api.Packet {
	t.Helper()
	var all []api.Packet
	for range 1 + roll.Intn(3) {
		level := []api.Packet{p}
		for range 1 + roll.Intn(3) {
			var next []api.Packet
			for _, q := range level {
				next = append(next, cutTo(t, q, 68+roll.Intn(len(p.Body)+70))...)
			}
			all = append(all, next...)
			level = next
		}
	}
	return slices.DeleteFunc(all, isWhole)
}

func TestP5_6SomeOrders(t *testing.T) {
	roll := dice()
	for range 3000 {
		p := someWhole(roll, 1+roll.Intn(500))
		var coming []api.Packet
		for _, q := range manyCuts(t, roll, p) {
			for range roll.Intn(4) {
				coming = append(coming, q)
			}
		}
		roll.Shuffle(len(coming), func(i, j int) { coming[i], coming[j] = coming[j], coming[i] })
		checkComing(t, made(t, 1, 5), p, coming)
	}
}

// Datagrams of several keys come mixed up, and none is in another's way.
func TestP5_6ManyAtOnce(t *testing.T) {
	type coming struct {
		p    api.Packet
		left []api.Packet
	}
	roll := dice()
	for range 50 {
		a := made(t, 256, 5)
		var all []coming
		for id := range 200 {
			p := withID(someWhole(roll, 60+roll.Intn(200)), uint16(id))
			left := cutTo(t, p, 68)
			roll.Shuffle(len(left), func(i, j int) { left[i], left[j] = left[j], left[i] })
			all = append(all, coming{p, left})
		}
		for len(all) > 0 {
			i := roll.Intn(len(all))
			got, err := a.Add(all[i].left[0])
			all[i].left = all[i].left[1:]
			if len(all[i].left) > 0 {
				if err != api.ErrMore {
					t.Fatalf("P5.6: a piece of %s: %d", brief(all[i].p), err)
				}
				continue
			}
			if err != api.OK || !samePacket(got, all[i].p) {
				t.Fatalf("P5.6: the last piece of %s: %s, %d", brief(all[i].p), brief(got), err)
			}
			all = slices.Delete(all, i, i+1)
		}
		if len(a.Held()) != 0 {
			t.Fatalf("P5.6: %v is left", a.Held())
		}
	}
}

func TestP5_6Longest(t *testing.T) {
	roll := dice()
	for _, p := range []api.Packet{
		packet(0, false, run(0, 65515)),
		withOpts(packet(0, false, run(0, 65475)), copiedOpts()...),
		withOpts(packet(0, false, run(0, 65475)), plainOpts()...),
	} {
		for _, mtu := range []int{68, 69, 576, 1500, 65534} {
			pieces := cutTo(t, p, mtu)
			roll.Shuffle(len(pieces), func(i, j int) { pieces[i], pieces[j] = pieces[j], pieces[i] })
			a := made(t, 1, 5)
			for i, q := range pieces {
				for range 2 {
					got, err := a.Add(q)
					if i == len(pieces)-1 {
						if err != api.OK || !samePacket(got, p) {
							t.Fatalf("P5.6: %s, %d, want %s", brief(got), err, brief(p))
						}
						break
					}
					if err != api.ErrMore {
						t.Fatalf("P5.6: piece %d: %d", i, err)
					}
				}
			}
			if len(a.Held()) != 0 {
				t.Errorf("P5.6: %v is left", a.Held())
			}
		}
	}
}

// somePiece is a packet of one of few keys, near the start or the end of what a datagram can be.
func somePiece(roll *rand.Rand) api.Packet {
	n := 8 * roll.Intn(5)
	if roll.Intn(3) == 0 {
		n = roll.Intn(40)
	}
	p := packet(8*roll.Intn(7), roll.Intn(5) < 3, run(byte(roll.Int()), n))
	if roll.Intn(40) == 0 {
		p.Head.Off = 65528 - 8*roll.Intn(4)
	}
	if roll.Intn(60) == 0 {
		p.Head.Off += roll.Intn(100000) - 50000
	}
	p.Head.ID = uint16(roll.Intn(5))
	p.Head.Proto = byte(16 + roll.Intn(2))
	p.Head.TTL = byte(roll.Intn(8))
	p.Head.TOS = byte(roll.Int())
	if roll.Intn(10) == 0 {
		p.Head.Opts = []byte{0x82, byte(2 + roll.Intn(4)), 1, 1}
	}
	p.Head.DF = roll.Intn(5) == 0
	return p
}

// Whatever is called in whatever order, the answers are the model's.
func TestP5_3AnyCalls(t *testing.T) {
	roll := dice()
	seen := map[api.Errno]int{}
	for range 400 {
		p := newPair(t, 1+roll.Intn(6), int64(1+roll.Intn(9)))
		if roll.Intn(10) == 0 {
			p.tick(most-int64(roll.Intn(60)), 0)
		}
		for range 250 {
			if roll.Intn(12) == 0 {
				n := int64(roll.Intn(5) - 1)
				if got, want := p.real.Tick(n), p.model.tick(n); got != want {
					t.Fatalf("P5.4: Tick(%d) = %d, want %d", n, got, want)
				}
				p.checkState()
				continue
			}
			q := somePiece(roll)
			_, err := p.add(q)
			if err == api.OK && !isWhole(q) {
				err = -1 // a datagram that became whole
			}
			seen[err]++
		}
	}
	for _, err := range []api.Errno{-1, api.OK, api.ErrMore, api.ErrClash, api.ErrOff, api.ErrOpts} {
		if seen[err] < 300 {
			t.Errorf("the test's own pieces came to %d only %d times", err, seen[err])
		}
	}
}

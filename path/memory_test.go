package path

import (
	"bytes"
	"slices"
	"testing"

	"weft/api"
)

// spoil writes over a list, its spare room too, and appends to it.
func spoil[E any](list []E, e E) {
	whole := list[:cap(list)]
	for i := range whole {
		whole[i] = e
	}
	_ = append(list, e)
}

func spoilResult(r api.Result) {
	for _, g := range r.Local {
		spoil(g.Bytes, 0xee)
	}
	for _, s := range r.Out {
		spoil(s.Bytes, 0xee)
	}
	spoil(r.Local, api.Given{To: 77, Name: "spoilt", Bytes: []byte{1}})
	spoil(r.Out, api.Sent{To: 77, Bytes: []byte{1}})
}

// copied is the same in memory of its own, without the program's help.
func copied(r api.Result) api.Result {
	r.Local, r.Out = append([]api.Given{}, r.Local...), append([]api.Sent{}, r.Out...)
	for i := range r.Local {
		r.Local[i].Bytes = append([]byte{}, r.Local[i].Bytes...)
	}
	for i := range r.Out {
		r.Out[i].Bytes = append([]byte{}, r.Out[i].Bytes...)
	}
	return r
}

// samples is packets of every kind for Send, and for Receive, at the host of countable.
func samples() (sent, received [][]byte) {
	plain := []api.Packet{udp(cli, web, 9), udp(web, cli, 9), udp(cli, at(1, 9), 9), udp(cli, web, 1), udp(web, at(9, 9), 9), udp(cli, at(9, 9), 9), ping(cli, here, 9), ping(web, here, 9),
		sized(udp(cli, web, 9), 500), withDF(sized(udp(cli, web, 9), 500)), udp(cli, at(4, 4), 9), udp(web, at(3, 3), 9), udp(0, cli, 9), udp(cli, here, 9), udp(cli, at(1, 0), 9),
		message(web, here, 9, api.Control{Type: 8, Body: run(300)}), withOpts(sized(udp(cli, web, 9), 300), 0x83, 7, 4, 10, 9, 9, 9, 1), sized(udp(web, cli, 9), 500), sized(udp(cli, web, 9), 20), sized(udp(web, cli, 9), 20)}
	for _, p := range plain {
		for _, more := range [][]byte{nil, {1, 2, 3}} {
			whole := append(raw(p), more...)
			sent = append(sent, whole)
			received = append(received, sealedTo(1, whole), append(sealedTo(1, whole), 7), sealedTo(2, whole))
		}
	}
	sent = append(sent, nil, []byte{1}, spoilt(udp(cli, web, 9), 3))
	received = append(received, nil, []byte{1}, sealedTo(1, run(20)), sealedTo(1, spoilt(udp(web, cli, 9), 3)))
	return sent, received
}

// What is handed in is neither changed nor kept, its spare room neither.
func TestP0_3HandedIn(t *testing.T) {
	b := countable(t)
	sent, received := samples()
	check := func(call func([]byte) api.Result, packet []byte) {
		t.Helper()
		for _, room := range []int{0, 1, 100} {
			mine := append(append(make([]byte, 0, len(packet)+room), packet...), bytes.Repeat([]byte{0x55}, room)...)[:len(packet)]
			was := bytes.Clone(mine[:cap(mine)])
			r := call(mine)
			if !bytes.Equal(mine[:cap(mine)], was) {
				t.Errorf("P0.3: what was handed in became %x, was %x", mine[:cap(mine)], was)
			}
			told := copied(r)
			spoil(mine, 0xdd)
			if !sameResult(r, told) {
				t.Errorf("P0.3: an answer hangs on what was handed in: %s, was %s", brief(r), brief(told))
			}
			spoilResult(r)
			for _, x := range mine[:cap(mine)] {
				if x != 0xdd {
					t.Fatalf("P0.3: an answer's memory is what was handed in")
				}
			}
			if again := call(packet); !sameResult(again, told) {
				t.Errorf("P0.5: the same call answers %s, and answered %s", brief(again), brief(told))
			}
		}
	}
	for _, packet := range sent {
		check(b.p.Send, packet)
	}
	for _, packet := range received {
		check(b.p.Receive, packet)
	}
}

// What is answered is the caller's own: written over and appended to, it changes no other answer and nothing that is kept.
func TestP0_3Answered(t *testing.T) {
	b := countable(t)
	sent, received := samples()
	calls := []func() api.Result{}
	for _, packet := range sent {
		calls = append(calls, func() api.Result { return b.p.Send(packet) })
	}
	for _, packet := range received {
		calls = append(calls, func() api.Result { return b.p.Receive(packet) })
	}
	for _, call := range calls {
		one, two := call(), call()
		was := copied(two)
		spoilResult(one)
		if !sameResult(two, was) {
			t.Errorf("P0.3: another answer became %s, was %s", brief(two), brief(was))
		}
		if three := call(); !sameResult(three, was) {
			t.Errorf("P0.3: a later answer is %s, was %s", brief(three), brief(was))
		}
		if !sameResult(two, was) {
			t.Errorf("P0.3: an earlier answer became %s, was %s", brief(two), brief(was))
		}
	}
}

// No list of an answer shares memory with another one of it.
func TestP0_3ListsApart(t *testing.T) {
	b := countable(t)
	for _, p := range []api.Packet{sized(udp(cli, web, 9), 500), message(web, here, 9, api.Control{Type: 8, Body: run(300)}), withOpts(sized(udp(cli, web, 9), 300), 0x83, 7, 4, 10, 9, 9, 9, 1)} {
		n := len(b.sends(p).r.Out)
		if n < 3 {
			t.Fatalf("%d pieces", n)
		}
		for i := range n {
			r := b.sends(p).r
			was := copied(r)
			spoil(r.Out[i].Bytes, 0xee)
			r.Out[i], was.Out[i] = api.Sent{}, api.Sent{}
			if !sameResult(r, was) {
				t.Errorf("P0.3: packet %d shares memory with another: %s, was %s", i, brief(r), brief(was))
			}
		}
	}
}

// The lists of pods and counts are the caller's own.
func TestP0_3Lists(t *testing.T) {
	for _, n := range []int{0, 1, 2, 3, 7, 100} {
		b := host(t, 1, 1500)
		for i := range n {
			b.binds("p", at(1, 3+i))
		}
		b.sends(udp(web, cli, 9))
		pods, counts := b.p.Bound(), b.p.Counts()
		spoil(b.p.Bound(), api.Pod{Name: "spoilt", Addr: 7})
		spoil(b.p.Counts(), 77)
		wasPods, wasCounts := slices.Clone(pods), slices.Clone(counts)
		b.bound()
		b.counts()
		b.binds("q", at(2, 9))
		b.unbind(cli)
		b.sends(udp(web, cli, 9)).is(api.VNoPod)
		if !slices.Equal(pods, wasPods) || !slices.Equal(counts, wasCounts) {
			t.Errorf("P0.3: a list became %v, %v", pods, counts)
		}
		spoil(pods, api.Pod{Name: "spoilt", Addr: 7})
		spoil(counts, 77)
		b.bound()
		b.counts()
	}
}

// A name that is made of bytes which are changed later stays as it was handed in.
func TestP0_3NamesStay(t *testing.T) {
	b := begun(t, 1500, ends(1)...)
	name := []byte("cli")
	b.binds(string(name), cli)
	name[0] = 'x'
	b.sends(udp(web, cli, 9)).is(api.VDelivered).gives("cli", udp(web, cli, 8))
	if got := b.bound(); got[0].Name != "cli" {
		t.Errorf("P0.3: %v", got)
	}
}

// What the datapath tells of its kernel leaves the kernel as it was.
func TestP0_3KernelStays(t *testing.T) {
	b := countable(t)
	was := b.k.Dump()
	sent, received := samples()
	for i := range max(len(sent), len(received)) {
		spoilResult(b.p.Send(sent[i%len(sent)]))
		spoilResult(b.p.Receive(received[i%len(received)]))
	}
	now := b.k.Dump()
	if !slices.Equal(now.Routes, was.Routes) || !slices.Equal(now.Neighs, was.Neighs) || !slices.Equal(now.Fdbs, was.Fdbs) {
		t.Errorf("P0.3: the kernel has %+v, had %+v", now, was)
	}
}

// A nil packet and an empty one are the same.
func TestP0_4NilAndEmpty(t *testing.T) {
	b := host(t, 1, 1500)
	for _, packet := range [][]byte{nil, {}, make([]byte, 0, 40)} {
		b.send(packet).isWith(api.VBadPacket, api.ErrShort).nothing()
		b.receive(packet).isWith(api.VBadOuter, api.ErrShort).nothing()
	}
}

package world

import (
	"bytes"
	"cmp"
	"reflect"
	"slices"
	"testing"

	"weft/api"
)

// spoilList writes over a list, its spare room too, and appends to it.
func spoilList[E any](l []E, e E) {
	whole := l[:cap(l)]
	for i := range whole {
		whole[i] = e
	}
	_ = append(l, e)
}

func spoilTables(t api.Tables) {
	spoilList(t.Routes, api.Route{Dst: sub(77), Local: true})
	spoilList(t.Neighs, api.Neigh{IP: 77})
	spoilList(t.Fdbs, api.Fdb{To: 77})
}

// spoilReply writes over all that a reply has.
func spoilReply(r api.Reply) {
	for _, g := range r.Given[:cap(r.Given)] {
		spoilList(g.Bytes, 0xee)
	}
	for _, s := range r.Flight[:cap(r.Flight)] {
		spoilList(s.Bytes, 0xee)
	}
	spoilList(r.Given, api.Given{To: 77, Name: "spoilt", Bytes: []byte{1}})
	spoilList(r.Flight, api.Sent{To: 77, Bytes: []byte{1}})
	spoilList(r.Leases, api.Lease{Host: 2, Subnet: sub(77), Until: 7})
	spoilTables(r.Tables)
	spoilList(r.Pods, api.Pod{Name: "spoilt", Addr: 77})
	spoilList(r.View.Leases, api.Lease{Host: 1, Subnet: sub(77), Until: 7})
	spoilList(r.View.Skipped, sub(77))
	spoilTables(r.View.Have)
	spoilList(r.Counts, 77)
	spoilList(r.Disk.A, 0xee)
	spoilList(r.Disk.B, 0xee)
}

// span is the memory of a list, with its spare room.
type span struct{ from, behind uintptr }

// spansOf is the memory of all lists in a value.
func spansOf(v reflect.Value) []span {
	var all []span
	switch v.Kind() {
	case reflect.Slice:
		if n := uintptr(v.Cap()) * v.Type().Elem().Size(); n > 0 {
			all = append(all, span{v.Pointer(), v.Pointer() + n})
		}
		for i := range v.Len() {
			all = append(all, spansOf(v.Index(i))...)
		}
	case reflect.Struct:
		for i := range v.NumField() {
			all = append(all, spansOf(v.Field(i))...)
		}
	}
	return all
}

// apart: no two lists of the values share memory.
func apart(t *testing.T, what string, values ...any) {
	t.Helper()
	var all []span
	for _, v := range values {
		all = append(all, spansOf(reflect.ValueOf(v))...)
	}
	slices.SortFunc(all, func(x, y span) int { return cmp.Compare(x.from, y.from) })
	for i := 1; i < len(all); i++ {
		if all[i].from < all[i-1].behind {
			t.Fatalf("P0.3: %s: two lists share memory", what)
		}
	}
}

// roomy is bytes with spare room behind them, which has a pattern.
func roomy(b []byte, room int) []byte {
	l := append(append(make([]byte, 0, len(b)+room), b...), bytes.Repeat([]byte{0x55}, room)...)
	return l[:len(b)]
}

// hostile asks both, each with bytes of its own; what was handed in must be unchanged, and is written over behind the call; so is the reply.
func (b both) hostile(a api.Act) {
	b.t.Helper()
	theirs := a
	theirs.Bytes = bytes.Clone(a.Bytes)
	a.Bytes = roomy(a.Bytes, 9)
	was := bytes.Clone(a.Bytes[:cap(a.Bytes)])
	got, want := b.w.Do(a), b.m.do(theirs)
	if !bytes.Equal(a.Bytes[:cap(a.Bytes)], was) {
		b.t.Fatalf("P0.3: Do(%s) changed what was handed in", brief(a))
	}
	apart(b.t, brief(a), a, got)
	spoilList(a.Bytes, 0xdd)
	if !same(got, want) {
		b.t.Fatalf("P19.11: Do(%s) = %s, want %s", brief(theirs), brief(got), brief(want))
	}
	mine := twin(want)
	spoilReply(got)
	if !same(want, mine) {
		b.t.Fatalf("the test's own replies hang together")
	}
}

func TestP19_11EveryKind(t *testing.T) {
	for kind := api.ActTick; kind <= api.ActDisk; kind++ {
		b := laden(t)
		for range 3 {
			b.hostile(sample(kind))
			b.check()
		}
		b.hostile(api.Act{Kind: api.ActFlush, N: 99})
		b.hostile(api.Act{Kind: api.ActCalm})
		b.check()
	}
}

// Every list that a reply can have is asked for twice: neither shares memory with the other, nor with what the world keeps.
func TestP19_11Twice(t *testing.T) {
	b := begun(t, config(withTables(2, 64, 64)))
	b.calm()
	b.pod(0, "a")
	b.pod(0, "b")
	b.send(0, wire(udp(at(1, 2), web, 9)))
	b.send(0, wire(udp(at(1, 2), web, 9)))
	questions := []api.Act{{Kind: api.ActLeases}, {Kind: api.ActTables}, {Kind: api.ActView}, {Kind: api.ActPods}, {Kind: api.ActFlight}, {Kind: api.ActCounts}, {Kind: api.ActHolder, Addr: web}, {Kind: api.ActDisk},
		{Kind: api.ActSend, Bytes: wire(udp(at(1, 3), at(1, 2), 9))}, {Kind: api.ActRaw, Bytes: sealed(0, wire(udp(at(1, 3), at(1, 2), 9)))}}
	for _, a := range questions {
		one, two := b.do(a), b.do(a)
		if len(spansOf(reflect.ValueOf(one))) == 0 {
			t.Fatalf("Do(%s) has no list", brief(a))
		}
		apart(t, brief(a), a, one, two)
		kept := twin(two)
		spoilReply(one)
		if !same(two, kept) {
			t.Errorf("P0.3: Do(%s): one reply hangs on another", brief(a))
		}
		b.check()
	}
	if v := b.view(0); len(v.Skipped) == 0 || len(v.Leases) == 0 || len(v.Have.Routes) == 0 {
		t.Errorf("the view is not as the test wants it: %s", brief(v))
	}
}

// What is given is neither the packet that was handed in nor what is in flight.
func TestP19_11Given(t *testing.T) {
	b := cluster(t)
	p := wire(udp(cli, web, 9))
	b.hostile(api.Act{Kind: api.ActSend, Bytes: p})
	b.hostile(api.Act{Kind: api.ActCopy})
	b.check()
	b.hostile(api.Act{Kind: api.ActDeliver})
	b.check()
	b.hostile(api.Act{Kind: api.ActFlush, N: 9})
	b.hostile(api.Act{Kind: api.ActSend, Host: 1, Bytes: wire(udp(at(2, 9), web, 9))})
	b.hostile(api.Act{Kind: api.ActSend, Bytes: wire(udp(cli, quad(9, 9, 9, 9), 9))})
	b.hostile(api.Act{Kind: api.ActSend, Bytes: wire(sized(udp(cli, web, 9), 4000))})
	b.hostile(api.Act{Kind: api.ActFlush, N: 9})
	b.check()
}

// All replies of a Run are apart from one another.
func TestP19_11Run(t *testing.T) {
	acts := []api.Act{{Kind: api.ActCalm}, {Kind: api.ActPod, Name: "cli"}, {Kind: api.ActPod, Host: 1, Name: "web"}, {Kind: api.ActSend, Bytes: wire(udp(cli, web, 9))}, {Kind: api.ActSend, Bytes: wire(udp(cli, cli, 9))}}
	for kind := api.ActTick; kind <= api.ActDisk; kind++ {
		acts = append(acts, sample(kind), sample(kind))
	}
	kept := slices.Clone(acts)
	for i := range kept {
		kept[i].Bytes = bytes.Clone(kept[i].Bytes)
	}
	got, _ := Run(config(), acts...)
	apart(t, "Run", acts, got)
	if !reflect.DeepEqual(acts, kept) {
		t.Errorf("P0.3: Run changed what was handed in")
	}
	want, _ := Run(config(), kept...)
	for i, r := range got {
		one := twin(want[i])
		spoilReply(r)
		if !same(want[i], one) {
			t.Errorf("P0.5: reply %d of one Run hangs on another", i)
		}
	}
}

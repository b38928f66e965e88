package world

import (
	"reflect"
	"slices"
	"testing"

	"weft/api"
	"weft/icmp"
	"weft/ip4"
)

// told begins a world without its model: DOC.md's and the chapter's examples are held as they stand.
type told struct {
	t *testing.T
	w *World
}

func example(t *testing.T, changes ...func(*api.Config)) told {
	t.Helper()
	w, err := New(config(changes...))
	if w == nil || err != api.OK {
		t.Fatalf("P19.1: New = %v, %d", w, err)
	}
	return told{t, w}
}

func (x told) do(a api.Act, want api.Reply) {
	x.t.Helper()
	if got := x.w.Do(a); !same(got, want) {
		x.t.Errorf("P19: Do(%s) = %s, want %s", brief(a), brief(got), brief(want))
	}
}

func (x told) calm() {
	x.t.Helper()
	if r := x.w.Do(api.Act{Kind: api.ActCalm}); r.Err != api.OK || r.N < 1 {
		x.t.Fatalf("P19.8: Calm = %s", brief(r))
	}
}

// step is a step of a host, with what it asks for, how many were quiet, and the revision behind it.
func (x told) step(h int, n int64, req int, quiet, rev int64) {
	x.t.Helper()
	x.do(api.Act{Kind: api.ActStep, Host: h, N: n}, api.Reply{N: quiet, Req: req})
	if r := x.w.Do(api.Act{Kind: api.ActLeases}); r.Err != api.OK || r.N != rev {
		x.t.Errorf("P19: behind a step of host %d the revision is %d (%d), want %d", h, r.N, r.Err, rev)
	}
}

// leased is host h's lease of the examples, granted at tick 0 with that revision.
func leased(h int, rev int64) api.Lease {
	return api.Lease{Host: h, Subnet: sub(h + 1), Pub: pub(h), MAC: mac(h, 0), Until: 100, Rev: rev}
}

func (x told) pods() {
	x.t.Helper()
	x.calm()
	x.do(api.Act{Kind: api.ActPod, Host: 1, Name: "web"}, api.Reply{N: 0x0a050202})
	x.do(api.Act{Kind: api.ActPod, Host: 0, Name: "cli"}, api.Reply{N: 0x0a050102})
}

func TestW0Examples1To3(t *testing.T) {
	x := example(t)
	x.do(api.Act{Kind: api.ActLeases}, api.Reply{})
	for h := range 3 {
		x.do(api.Act{Kind: api.ActTables, Host: h}, api.Reply{})
		x.do(api.Act{Kind: api.ActStart, Host: h}, api.Reply{Err: api.ErrUp})
	}
	x.calm()
	x.do(api.Act{Kind: api.ActLeases}, api.Reply{N: 3, Leases: []api.Lease{leased(0, 1), leased(1, 2), leased(2, 3)}})
	x.do(api.Act{Kind: api.ActTables}, api.Reply{Tables: api.Tables{
		Routes: []api.Route{{Dst: sub(1), Local: true}, {Dst: sub(2), Via: at(2, 0)}, {Dst: sub(3), Via: at(3, 0)}},
		Neighs: []api.Neigh{{IP: at(2, 0), MAC: api.MAC{2, 0, 0xc0, 0, 2, 0x0b}}, {IP: at(3, 0), MAC: api.MAC{2, 0, 0xc0, 0, 2, 0x0c}}},
		Fdbs:   []api.Fdb{{MAC: api.MAC{2, 0, 0xc0, 0, 2, 0x0b}, To: quad(192, 0, 2, 11)}, {MAC: api.MAC{2, 0, 0xc0, 0, 2, 0x0c}, To: quad(192, 0, 2, 12)}},
	}})
	x.do(api.Act{Kind: api.ActPod, Host: 1, Name: "web"}, api.Reply{N: 0x0a050202})
	x.do(api.Act{Kind: api.ActPod, Host: 0, Name: "cli"}, api.Reply{N: 0x0a050102})
}

func TestW0Examples4To7(t *testing.T) {
	x := example(t)
	x.pods()
	aged := func(p api.Packet, by byte) []byte {
		p.Head.TTL -= by
		return wire(p)
	}
	first := udp(cli, web, 64)
	x.do(api.Act{Kind: api.ActSend, Bytes: wire(first)}, api.Reply{Verdict: 13, N: 1})
	if f := x.w.Do(api.Act{Kind: api.ActFlight}).Flight; len(f) != 1 || f[0].To != quad(192, 0, 2, 11) {
		t.Errorf("example 4: in flight is %s", brief(f))
	}
	x.do(api.Act{Kind: api.ActDeliver}, api.Reply{Verdict: 9, Given: []api.Given{{Host: 1, To: web, Name: "web", Bytes: aged(first, 2)}}})

	short := udp(cli, web, 2)
	x.do(api.Act{Kind: api.ActSend, Bytes: wire(short)}, api.Reply{Verdict: 13, N: 1})
	x.do(api.Act{Kind: api.ActDeliver}, api.Reply{Verdict: 7, N: 1})
	if f := x.w.Do(api.Act{Kind: api.ActFlight}).Flight; len(f) != 1 || f[0].To != quad(192, 0, 2, 10) {
		t.Errorf("example 5: in flight is %s", brief(f))
	}
	late, _ := icmp.Fault(lowered(short), 11, 0, 0, at(2, 1))
	x.do(api.Act{Kind: api.ActDeliver}, api.Reply{Verdict: 9, Given: []api.Given{{Host: 0, To: cli, Name: "cli", Bytes: aged(late, 1)}}})

	x.do(api.Act{Kind: api.ActSend, Bytes: wire(ping(cli, at(2, 1), 64, 3))}, api.Reply{Verdict: 13, N: 1})
	x.do(api.Act{Kind: api.ActDeliver}, api.Reply{Verdict: 6, N: 1})
	reply, _ := icmp.Echo(ping(cli, at(2, 1), 63, 3))
	x.do(api.Act{Kind: api.ActDeliver}, api.Reply{Verdict: 9, Given: []api.Given{{Host: 0, To: cli, Name: "cli", Bytes: aged(reply, 1)}}})

	lost := udp(cli, quad(10, 9, 0, 1), 64)
	none, _ := icmp.Fault(lost, 3, 0, 0, at(1, 1))
	x.do(api.Act{Kind: api.ActSend, Bytes: wire(lost)}, api.Reply{Verdict: 4, Given: []api.Given{{Host: 0, To: cli, Name: "cli", Bytes: wire(none)}}})
	if none.Head.TTL != 64 || none.Head.Src != at(1, 1) {
		t.Errorf("example 7: the fault's head is %+v", none.Head)
	}
	x.do(api.Act{Kind: api.ActSend, Bytes: wire(udp(at(1, 9), quad(10, 9, 0, 1), 64))}, api.Reply{Verdict: 4})
	x.do(api.Act{Kind: api.ActFlight}, api.Reply{})
}

// lowered is a packet as it is sealed: its TTL is one less.
func lowered(p api.Packet) api.Packet {
	b, _ := ip4.Age(wire(p))
	q, _ := ip4.Parse(b)
	return q
}

func TestW0Example8(t *testing.T) {
	x := example(t)
	x.calm()
	x.do(api.Act{Kind: api.ActCrash, Host: 2}, api.Reply{})
	x.do(api.Act{Kind: api.ActTick, N: 100}, api.Reply{N: 100})
	x.do(api.Act{Kind: api.ActLeases}, api.Reply{N: 6})
	x.calm()
	r := x.w.Do(api.Act{Kind: api.ActLeases})
	if len(r.Leases) != 3 {
		t.Fatalf("example 8: %s", brief(r))
	}
	for h, l := range r.Leases {
		want := leased(h, l.Rev)
		want.Until = 200
		if l != want || l.Rev < 7 {
			t.Errorf("example 8: lease %+v, want %+v", l, want)
		}
	}
}

func TestW0Example9(t *testing.T) {
	x := example(t)
	x.step(0, 2, api.ReqSnapshot, 0, 0)
	x.do(api.Act{Kind: api.ActTear, N: 10}, api.Reply{})
	x.do(api.Act{Kind: api.ActStep, N: 1}, api.Reply{Req: api.ReqAcquire})
	x.do(api.Act{Kind: api.ActLeases}, api.Reply{Err: api.ErrDown})
	if d := x.w.Do(api.Act{Kind: api.ActDisk}).Disk; len(d.A) != 10 || len(d.B) != 0 {
		t.Errorf("example 9: the disk is %x", d)
	}
	x.do(api.Act{Kind: api.ActReopen}, api.Reply{})
	x.do(api.Act{Kind: api.ActLeases}, api.Reply{})
	x.step(0, 1, api.ReqAcquire, 0, 1)
}

func TestW0Example10(t *testing.T) {
	x := example(t, withLog(1))
	x.step(0, 2, api.ReqSnapshot, 0, 0)
	x.step(1, 3, api.ReqAcquire, 0, 1)
	x.step(2, 6, api.ReqAcquire, 0, 2)
	x.step(0, 1, api.ReqAcquire, 0, 3)
	x.step(0, 1, api.ReqWatch, 0, 3)
	x.step(0, 1, api.ReqSnapshot, 0, 3)
	if v := x.w.Do(api.Act{Kind: api.ActView}).View; v.Cursor != 3 || len(v.Leases) != 3 || !v.Has {
		t.Errorf("example 10: %s", brief(v))
	}
}

func TestP19_5Example1(t *testing.T) {
	x := example(t)
	x.step(0, 1, 1, 0, 0)
	x.step(0, 1, 2, 0, 0)
	x.step(0, 1, 4, 0, 1)
	x.step(0, 1, 6, 0, 1)
	if v := x.w.Do(api.Act{Kind: api.ActView}).View; !v.Has || v.Lease != leased(0, 1) || v.Cursor != 1 {
		t.Errorf("example 1: %s", brief(v))
	}
	x.do(api.Act{Kind: api.ActTables}, api.Reply{})
	x.step(0, 1, 3, 0, 1)
	x.do(api.Act{Kind: api.ActTables}, api.Reply{Tables: api.Tables{Routes: []api.Route{{Dst: sub(1), Local: true}}}})
	x.step(0, 1, 6, 1, 1)
}

func TestP19_5Examples2And3(t *testing.T) {
	x := example(t)
	x.step(0, 2, 2, 0, 0)
	x.do(api.Act{Kind: api.ActMute}, api.Reply{})
	x.step(0, 1, 4, 0, 1)
	x.do(api.Act{Kind: api.ActLeases}, api.Reply{N: 1, Leases: []api.Lease{leased(0, 1)}})
	if v := x.w.Do(api.Act{Kind: api.ActView}).View; v.Has || v.Cursor != 0 {
		t.Errorf("example 2: %s", brief(v))
	}
	x.step(0, 1, 4, 0, 1)
	x.do(api.Act{Kind: api.ActLeases}, api.Reply{N: 1, Leases: []api.Lease{leased(0, 1)}})
	x.step(0, 1, 6, 0, 1)

	x = example(t)
	x.step(0, 2, 2, 0, 0)
	x.do(api.Act{Kind: api.ActFail}, api.Reply{})
	x.step(0, 1, 4, 0, 0)
	x.step(0, 1, 4, 0, 1)
}

func TestP19_3Example4(t *testing.T) {
	x := example(t)
	for _, n := range []int64{-1, 0, 1, 257} {
		x.do(api.Act{Kind: api.ActStep, Host: 3, N: n}, api.Reply{Err: api.ErrHost})
	}
	x.do(api.Act{Kind: api.ActStep}, api.Reply{Err: api.ErrArg})
	x.do(api.Act{Kind: api.ActStep, N: 257}, api.Reply{Err: api.ErrArg})
	x.step(0, 1, api.ReqDump, 0, 0)
}

func TestP19_9Example5(t *testing.T) {
	x := example(t)
	x.do(api.Act{Kind: api.ActPod, Name: "a"}, api.Reply{Err: api.ErrNoSub})
	x.calm()
	for i, name := range []string{"a", "b", "c"} {
		x.do(api.Act{Kind: api.ActPod, Name: name}, api.Reply{N: 0x0a050102 + int64(i)})
	}
	x.do(api.Act{Kind: api.ActUnpod, Name: "b"}, api.Reply{N: 0x0a050103})
	x.do(api.Act{Kind: api.ActPod, Name: "d"}, api.Reply{N: 0x0a050105})
}

// The examples' acts once more, all at once: Run plays what Do plays.
func TestP19_2ExamplesByRun(t *testing.T) {
	acts := []api.Act{{Kind: api.ActLeases}, {Kind: api.ActCalm}, {Kind: api.ActPod, Host: 1, Name: "web"}, {Kind: api.ActPod, Name: "cli"}, {Kind: api.ActSend, Bytes: wire(udp(cli, web, 64))},
		{Kind: api.ActFlight}, {Kind: api.ActDeliver}, {Kind: 77}, {Kind: api.ActCrash, Host: 2}, {Kind: api.ActTick, N: 100}, {Kind: api.ActLeases}, {Kind: api.ActCalm}, {Kind: api.ActLeases}, {Kind: api.ActDisk}}
	got, err := Run(config(), acts...)
	if err != api.OK || len(got) != len(acts) {
		t.Fatalf("P19.2: Run = %s, %d", brief(got), err)
	}
	x := example(t)
	for i, a := range acts {
		x.do(a, got[i])
	}
	kept := slices.Clone(got)
	again, _ := Run(config(), acts...)
	for i := range again {
		if !reflect.DeepEqual(twin(again[i]), twin(kept[i])) {
			t.Errorf("P0.5: act %d of a second run: %s, want %s", i, brief(again[i]), brief(kept[i]))
		}
	}
}

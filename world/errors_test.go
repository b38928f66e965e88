package world

import (
	"reflect"
	"slices"
	"testing"

	"weft/api"
)

// speaks is what an OK reply of each kind may tell, besides OK.
var speaks = map[int][]string{
	api.ActTick: {"N"}, api.ActStep: {"N", "Req"}, api.ActRound: {"N"}, api.ActCalm: {"N"}, api.ActCrash: nil, api.ActStart: nil, api.ActReboot: {"N"}, api.ActFail: nil, api.ActMute: nil,
	api.ActPod: {"N"}, api.ActUnpod: {"N"}, api.ActSend: {"Verdict", "Why", "Given", "N"}, api.ActRaw: {"Verdict", "Why", "Given", "N"}, api.ActDeliver: {"Verdict", "Why", "Given", "N"},
	api.ActLose: nil, api.ActCopy: nil, api.ActSpoil: nil, api.ActFlush: {"N", "Given"}, api.ActTear: nil, api.ActReopen: {"N"}, api.ActRevoke: {"N"}, api.ActLeases: {"Leases", "N"},
	api.ActTables: {"Tables"}, api.ActView: {"View"}, api.ActPods: {"Pods"}, api.ActFlight: {"Flight"}, api.ActCounts: {"Counts"}, api.ActHolder: {"Leases"}, api.ActDisk: {"Disk"},
}

// speaksOf: a reply tells no more than its kind's line names; beside an error nothing.
func speaksOf(t *testing.T, a api.Act, r api.Reply) {
	t.Helper()
	v := reflect.ValueOf(twin(r))
	for i := range v.NumField() {
		name := v.Type().Field(i).Name
		if v.Field(i).IsZero() || name == "Err" {
			continue
		}
		if r.Err != api.OK || !slices.Contains(speaks[a.Kind], name) {
			t.Errorf("P19.3: Do(%s) tells of %s: %s", brief(a), name, brief(r))
		}
	}
}

// laden is a world in which every kind of act can be done: host 0 has an agent, pods and a lease, the agent of host 1 does not run, two packets are in flight.
func laden(t *testing.T) both {
	t.Helper()
	b := cluster(t)
	b.crash(1)
	b.send(0, wire(udp(cli, web, 9)))
	b.send(2, wire(udp(far, cli, 9)))
	return b
}

// sample is an act of each kind that can be done in a laden world.
func sample(kind int) api.Act {
	a := api.Act{Kind: kind, N: 1}
	switch kind {
	case api.ActStart:
		a.Host = 1
	case api.ActPod:
		a.Name = "new"
	case api.ActUnpod:
		a.Name = "cli"
	case api.ActSend:
		a.Bytes = wire(udp(cli, web, 9))
	case api.ActRaw:
		a.Bytes = sealed(0, wire(udp(web, cli, 9)))
	case api.ActSpoil:
		a.Bytes = []byte{7}
	case api.ActHolder:
		a.Addr = at(2, 9)
	}
	return a
}

func TestP19_3EveryKindIsDone(t *testing.T) {
	for kind := api.ActTick; kind <= api.ActDisk; kind++ {
		b := laden(t)
		r := b.ok(sample(kind))
		speaksOf(t, sample(kind), r)
		for _, name := range speaks[kind] {
			if name != "Why" && reflect.ValueOf(twin(r)).FieldByName(name).IsZero() && !silent[kind][name] {
				t.Errorf("P19.7: Do(%s) tells nothing of %s: %s", brief(sample(kind)), name, brief(r))
			}
		}
		b.check()
	}
}

// silent is what a sample's reply has nothing to tell of.
var silent = map[int]map[string]bool{
	api.ActSend: {"Given": true}, api.ActRaw: {"N": true}, api.ActDeliver: {"Given": true, "N": true}, api.ActFlush: {"Given": true},
}

func TestP19_3NoKind(t *testing.T) {
	b := laden(t)
	was := b.w.Do(api.Act{Kind: api.ActDisk})
	for _, kind := range append(farInts, 0, api.ActDisk+1, api.ActDisk+2, 100, 255, 256, 257, 1<<32+1, 1<<32+29) {
		for _, h := range append(farInts, 0, 1, 2, 3) {
			b.no(api.ErrArg, api.Act{Kind: kind, Host: h})
			b.no(api.ErrArg, api.Act{Kind: kind, Host: h, N: 1, At: 1, Name: "a", Bytes: []byte{1}, Addr: cli})
		}
	}
	b.check()
	if !same(b.w.Do(api.Act{Kind: api.ActDisk}), was) {
		t.Errorf("P0.2: a refused act changed something")
	}
}

func TestP19_3Host(t *testing.T) {
	b := laden(t)
	for kind, names := range named {
		for _, h := range append(farInts, 3, 4, 63, 64) {
			a := sample(kind)
			a.Host = h
			if !names {
				continue
			}
			b.no(api.ErrHost, a)
			// Whatever else is wrong with it.
			a.N, a.Name, a.Bytes = -1, "", nil
			b.no(api.ErrHost, a)
			a.N = 1000
			b.no(api.ErrHost, a)
		}
	}
	b.check()
	for kind, names := range named {
		for _, h := range []int{0, 2} {
			if names {
				b := laden(t)
				a := sample(kind)
				a.Host = h
				if r := b.do(a); r.Err == api.ErrHost {
					t.Errorf("P19.3: kind %d of host %d: %d", kind, h, r.Err)
				}
			}
		}
	}
}

// Whether a field stands in a kind's line: what stands there is nothing to the others.
func TestP19_3OnlyItsFields(t *testing.T) {
	lines := map[int]string{
		api.ActTick: "N", api.ActStep: "Host N", api.ActRound: "N", api.ActCalm: "", api.ActCrash: "Host", api.ActStart: "Host", api.ActReboot: "Host", api.ActFail: "Host", api.ActMute: "Host",
		api.ActPod: "Host Name", api.ActUnpod: "Host Name", api.ActSend: "Host Bytes", api.ActRaw: "Host Bytes", api.ActDeliver: "At", api.ActLose: "At", api.ActCopy: "At",
		api.ActSpoil: "At N Bytes", api.ActFlush: "N", api.ActTear: "N", api.ActReopen: "", api.ActRevoke: "Host", api.ActLeases: "", api.ActTables: "Host", api.ActView: "Host", api.ActPods: "Host",
		api.ActFlight: "", api.ActCounts: "Host", api.ActHolder: "Addr", api.ActDisk: "",
	}
	has := func(line, field string) bool {
		return slices.Contains(splitWords(line), field)
	}
	for kind, line := range lines {
		for _, other := range []api.Act{
			{Host: -1, N: -1, At: -1, Name: "-", Bytes: nil, Addr: 0},
			{Host: 3, N: 1 << 62, At: 1 << 62, Name: "A", Bytes: run(70), Addr: quad(9, 9, 9, 9)},
			{Host: -1 << 63, N: -1 << 63, At: 1<<63 - 1, Name: "x", Bytes: []byte{0}, Addr: cli},
		} {
			a := sample(kind)
			want := sample(kind)
			if !has(line, "Host") {
				a.Host = other.Host
			}
			if !has(line, "N") {
				a.N = other.N
			}
			if !has(line, "At") {
				a.At = other.At
			}
			if !has(line, "Name") {
				a.Name = other.Name
			}
			if !has(line, "Bytes") {
				a.Bytes = other.Bytes
			}
			if !has(line, "Addr") {
				a.Addr = other.Addr
			}
			one, two := laden(t), laden(t)
			if r, s := one.ok(a), two.w.Do(want); !same(r, s) {
				t.Errorf("P19.3: Do(%s) = %s, want %s", brief(a), brief(r), brief(s))
			}
			one.check()
		}
	}
}

func splitWords(line string) []string {
	var words []string
	word := ""
	for _, c := range line + " " {
		if c != ' ' {
			word += string(c)
			continue
		}
		words = append(words, word)
		word = ""
	}
	return words
}

func TestP19_7BoundsOfN(t *testing.T) {
	for _, x := range []struct {
		kind  int
		first int64
		last  int64
	}{{api.ActStep, 1, 256}, {api.ActRound, 1, 256}, {api.ActFlush, 1, 65536}, {api.ActTear, 0, 1 << 20}} {
		b := laden(t)
		for _, n := range []int64{x.first - 1, x.first - 2, -1 << 32, -1 << 63, x.last + 1, x.last + 2, 1<<32 + 1, 1<<63 - 1} {
			b.no(api.ErrArg, api.Act{Kind: x.kind, N: n})
		}
		b.check()
		for _, n := range []int64{x.first, x.first + 1, x.last - 1, x.last} {
			b.ok(api.Act{Kind: x.kind, N: n})
		}
		b.check()
	}
}

func TestP19_7CountsOfSteps(t *testing.T) {
	b := begun(t, config())
	for _, x := range []struct{ n, quiet int64 }{{1, 0}, {256, 252}, {256, 256}, {255, 255}} {
		if r := b.steps(0, x.n); r.N != x.quiet || r.Req == 0 {
			t.Errorf("P19.7: %d steps: %s, want %d quiet", x.n, brief(r), x.quiet)
		}
	}
	b = begun(t, config())
	b.crash(1)
	for _, x := range []struct{ n, quiet int64 }{{1, 0}, {2, 0}, {256, 2*256 - 10}, {10, 20}, {1, 2}} {
		if r := b.round(x.n); r.N != x.quiet || r.Req != 0 {
			t.Errorf("P19.7: %d rounds: %s, want %d quiet", x.n, brief(r), x.quiet)
		}
	}
	b.crash(0)
	b.crash(2)
	if r := b.round(9); r.N != 0 {
		t.Errorf("P19.7: rounds without agents: %s", brief(r))
	}
}

// Where several errors apply, the line's first one is told.
func TestP19_3Order(t *testing.T) {
	b := laden(t)
	b.no(api.ErrArg, api.Act{Kind: api.ActStep, Host: 1, N: 0})
	b.no(api.ErrArg, api.Act{Kind: api.ActStep, Host: 1, N: 257})
	b.no(api.ErrStopped, api.Act{Kind: api.ActStep, Host: 1, N: 1})
	b.no(api.ErrStopped, api.Act{Kind: api.ActStep, Host: 1, N: 256})
	b.no(api.ErrArg, api.Act{Kind: api.ActSpoil, At: 9})
	b.no(api.ErrArg, api.Act{Kind: api.ActSpoil, At: 9, Bytes: []byte{1, 1}})
	b.no(api.ErrNone, api.Act{Kind: api.ActSpoil, At: 9, Bytes: []byte{0}, N: -1})
	b.no(api.ErrArg, api.Act{Kind: api.ActSpoil, Bytes: []byte{0}})
	b.no(api.ErrArg, api.Act{Kind: api.ActSpoil, Bytes: []byte{1}, N: -1})
	b.no(api.ErrArg, api.Act{Kind: api.ActSpoil, Bytes: []byte{1}, N: 1 << 40})
	b.tear(0)
	b.no(api.ErrDown, api.Act{Kind: api.ActTick})
	b.no(api.ErrArg, api.Act{Kind: api.ActTear, N: -1})
	b.no(api.ErrArg, api.Act{Kind: api.ActTear, N: 1<<20 + 1})
	b.no(api.ErrDown, api.Act{Kind: api.ActTear, N: 1})
	b.no(api.ErrDown, api.Act{Kind: api.ActTick, N: -1})
	b.no(api.ErrHost, api.Act{Kind: api.ActRevoke, Host: 3})
	b.no(api.ErrArg, api.Act{Kind: 30, Host: 3})
	b.check()
}

// The store refuses, and tells its tick and its revision beside that; a reply does not.
func TestP19_3StoreRefuses(t *testing.T) {
	b := begun(t, config())
	b.calm()
	b.tick(7)
	b.no(api.ErrArg, api.Act{Kind: api.ActTick, N: -1})
	b.revoke(1)
	b.no(api.ErrLease, api.Act{Kind: api.ActRevoke, Host: 1})
	b.no(api.ErrNone, api.Act{Kind: api.ActHolder, Addr: at(2, 2)})
	b.no(api.ErrNone, api.Act{Kind: api.ActHolder, Addr: 0})
	if r := b.ok(api.Act{Kind: api.ActHolder, Addr: at(1, 255)}); len(r.Leases) != 1 || r.Leases[0].Host != 0 {
		t.Errorf("P19.7: Holder = %s", brief(r))
	}
	b.check()
}

func TestP19_7AgentsThatRunAndDoNot(t *testing.T) {
	b := cluster(t)
	v := b.view(1)
	b.no(api.ErrUp, api.Act{Kind: api.ActStart, Host: 1})
	if !same(api.Reply{View: b.view(1)}, api.Reply{View: v}) {
		t.Errorf("P19.7: Start of an agent that runs: %s", brief(b.view(1)))
	}
	k, pods, counts := b.tables(1), b.pods(1), b.counts(1)
	b.crash(1)
	for _, kind := range []int{api.ActCrash, api.ActStep, api.ActView} {
		b.no(api.ErrStopped, api.Act{Kind: kind, Host: 1, N: 1})
	}
	want := api.Reply{Tables: k, Pods: pods, Counts: counts}
	if got := (api.Reply{Tables: b.tables(1), Pods: b.pods(1), Counts: b.counts(1)}); !same(got, want) {
		t.Errorf("P19.7: behind a crash: %s, want %s", brief(got), brief(want))
	}
	// The datapath goes on.
	b.send(0, wire(udp(cli, web, 9)))
	if r := b.flush(1); len(r.Given) != 1 || r.Given[0].Name != "web" {
		t.Errorf("P19.7: behind a crash a packet: %s", brief(r))
	}
	b.start(1)
	if !same(api.Reply{View: b.view(1)}, api.Reply{}) {
		t.Errorf("P19.7: a new agent knows %s", brief(b.view(1)))
	}
	b.no(api.ErrUp, api.Act{Kind: api.ActStart, Host: 1})
	b.asks(1, api.ReqDump, api.ReqSnapshot, api.ReqWatch)
	b.check()
}

func TestP19_7Reboot(t *testing.T) {
	for _, running := range []bool{true, false} {
		b := cluster(t)
		b.send(1, wire(udp(web, web, 9)))
		if !running {
			b.crash(1)
		}
		if r := b.reboot(1); r.N != 1 {
			t.Errorf("P19.7: the first boot is number %d", r.N)
		}
		if k := b.tables(1); len(k.Routes)+len(k.Neighs)+len(k.Fdbs) != 0 || len(b.pods(1)) != 0 || slices.Max(b.counts(1)) != 0 {
			t.Errorf("P19.7: behind a boot: %s, %v, %v", brief(k), b.pods(1), b.counts(1))
		}
		if !same(api.Reply{View: b.view(1)}, api.Reply{}) {
			t.Errorf("P19.7: a new agent knows %s", brief(b.view(1)))
		}
		b.no(api.ErrNone, api.Act{Kind: api.ActUnpod, Host: 1, Name: "web"})
		b.no(api.ErrNoSub, api.Act{Kind: api.ActPod, Host: 1, Name: "web"})
		b.calm()
		if l := b.leases().Leases; len(l) != 3 || l[1].MAC != mac(1, 1) || l[1].Subnet != sub(2) {
			t.Errorf("P19.7: behind a boot: %+v", l)
		}
		// Pods are given addresses from the first on.
		if a := b.pod(1, "new"); a != web {
			t.Errorf("P19.7: behind a boot a pod has %08x", a)
		}
		// What is sealed for the old MAC is refused, and for the new one taken.
		if r := b.raw(1, sealed(1, wire(udp(cli, web, 9)))); r.Verdict != api.VBadMAC {
			t.Errorf("P19.7: for the old MAC: %s", brief(r))
		}
		b.send(0, wire(udp(cli, web, 9)))
		if r := b.deliver(0); r.Verdict != api.VDelivered {
			t.Errorf("P19.7: for the new MAC: %s", brief(r))
		}
		b.check()
	}
}

// The number of boots goes into the MAC modulo 256.
func TestP19_7ManyBoots(t *testing.T) {
	b := begun(t, config(withHosts(2)))
	for n := range 600 {
		if r := b.reboot(1); r.N != int64(n+1) {
			t.Fatalf("P19.7: boot %d is told as %d", n+1, r.N)
		}
		if n == 99 || n == 254 || n == 255 || n == 256 || n == 511 || n == 599 {
			b.calm()
			if l := b.leases().Leases; len(l) != 2 || l[1].MAC != mac(1, (n+1)%256) || l[0].MAC != mac(0, 0) {
				t.Errorf("P19.7: behind %d boots: %+v", n+1, l)
			}
		}
	}
}

// The four bytes of the underlay address stand in the MAC, whatever they are.
func TestP19_7MACs(t *testing.T) {
	for _, first := range []api.Addr{quad(1, 2, 3, 4), quad(172, 16, 255, 254), quad(200, 0, 255, 255), quad(99, 255, 255, 254)} {
		b := begun(t, config(func(c *api.Config) { c.First = first }))
		b.calm()
		for h, l := range b.leases().Leases {
			a := first + api.Addr(h)
			if l.Pub != a || l.MAC != (api.MAC{2, 0, byte(a >> 24), byte(a >> 16 & 255), byte(a >> 8 & 255), byte(a & 255)}) {
				t.Errorf("P19.7: host %d has %+v", h, l)
			}
		}
	}
}

package world

import (
	"bytes"
	"fmt"
	"math/rand"
	"reflect"
	"slices"
	"testing"

	"weft/api"
	"weft/icmp"
	"weft/ip4"
	"weft/tunnel"
)

// dice rolls the same way in every run.
func dice(seed int64) *rand.Rand {
	return rand.New(rand.NewSource(1900 + seed))
}

func quad(a, b, c, d int) api.Addr {
	return api.Addr(a)<<24 + api.Addr(b)<<16 + api.Addr(c)<<8 + api.Addr(d)
}

// at is the address 10.5.c.d.
func at(c, d int) api.Addr { return quad(10, 5, c, d) }

// sub is 10.5.c.0/24.
func sub(c int) api.Prefix { return api.Prefix{Addr: at(c, 0), Len: 24} }

func pub(h int) api.Addr { return quad(192, 0, 2, 10+h) }

func mac(h, boots int) api.MAC { return api.MAC{2, byte(boots), 192, 0, 2, byte(10 + h)} }

// config is that of DOC.md's examples, but for the changes.
func config(changes ...func(*api.Config)) api.Config {
	c := api.Config{
		Network: api.Prefix{Addr: at(0, 0), Len: 16}, SubnetLen: 24, Min: at(1, 0), Max: at(255, 0), VNI: 1, Port: 8472, MTU: 1500, TTL: 100, Renew: 20,
		Log: 8, Hosts: 3, First: pub(0), Routes: 64, Neighs: 64, Fdbs: 64, Room: 64,
	}
	for _, change := range changes {
		change(&c)
	}
	return c
}

func withLog(n int) func(*api.Config)  { return func(c *api.Config) { c.Log = n } }
func withRoom(n int) func(*api.Config) { return func(c *api.Config) { c.Room = n } }
func withHosts(n int) func(*api.Config) {
	return func(c *api.Config) { c.Hosts = n }
}
func withMax(k int) func(*api.Config) { return func(c *api.Config) { c.Max = at(k, 0) } }
func withTables(r, n, f int) func(*api.Config) {
	return func(c *api.Config) { c.Routes, c.Neighs, c.Fdbs = r, n, f }
}
func withMTU(n int) func(*api.Config) { return func(c *api.Config) { c.MTU = n } }

// both is a world and its model: whatever is asked of the one is asked of the other.
type both struct {
	t *testing.T
	w *World
	m *model
}

func begun(t *testing.T, c api.Config) both {
	t.Helper()
	return opened(t, c, api.Disk{})
}

func opened(t *testing.T, c api.Config, d api.Disk) both {
	t.Helper()
	w, err := Open(c, d)
	if w == nil || err != api.OK {
		t.Fatalf("P19.1: Open = %v, %d", w, err)
	}
	m, err := modelOf(c, d)
	if err != api.OK {
		t.Fatalf("no model: %d", err)
	}
	return both{t, w, m}
}

// do asks both; the replies must be the same.
func (b both) do(a api.Act) api.Reply {
	b.t.Helper()
	got, want := b.w.Do(a), b.m.do(a)
	if !same(got, want) {
		b.t.Fatalf("P19: Do(%s) = %s, want %s", brief(a), brief(got), brief(want))
	}
	return got
}

// ok is an act that must be done.
func (b both) ok(a api.Act) api.Reply {
	b.t.Helper()
	r := b.do(a)
	if r.Err != api.OK {
		b.t.Fatalf("P19: Do(%s) is refused: %d", brief(a), r.Err)
	}
	return r
}

// no is an act that must be refused so, with a reply that has nothing else.
func (b both) no(err api.Errno, a api.Act) {
	b.t.Helper()
	if r := b.do(a); r.Err != err || !same(r, api.Reply{Err: err}) {
		b.t.Errorf("P19.3: Do(%s) = %s, want the error %d alone", brief(a), brief(r), err)
	}
}

func (b both) tick(n int64) api.Reply  { b.t.Helper(); return b.ok(api.Act{Kind: api.ActTick, N: n}) }
func (b both) round(n int64) api.Reply { b.t.Helper(); return b.ok(api.Act{Kind: api.ActRound, N: n}) }
func (b both) crash(h int) api.Reply   { b.t.Helper(); return b.ok(api.Act{Kind: api.ActCrash, Host: h}) }
func (b both) start(h int) api.Reply   { b.t.Helper(); return b.ok(api.Act{Kind: api.ActStart, Host: h}) }
func (b both) reboot(h int) api.Reply {
	b.t.Helper()
	return b.ok(api.Act{Kind: api.ActReboot, Host: h})
}
func (b both) fail(h int) api.Reply   { b.t.Helper(); return b.ok(api.Act{Kind: api.ActFail, Host: h}) }
func (b both) mute(h int) api.Reply   { b.t.Helper(); return b.ok(api.Act{Kind: api.ActMute, Host: h}) }
func (b both) tear(n int64) api.Reply { b.t.Helper(); return b.ok(api.Act{Kind: api.ActTear, N: n}) }
func (b both) reopen() api.Reply      { b.t.Helper(); return b.ok(api.Act{Kind: api.ActReopen}) }
func (b both) revoke(h int) api.Reply {
	b.t.Helper()
	return b.ok(api.Act{Kind: api.ActRevoke, Host: h})
}
func (b both) deliver(i int) api.Reply {
	b.t.Helper()
	return b.ok(api.Act{Kind: api.ActDeliver, At: i})
}
func (b both) flush(n int64) api.Reply { b.t.Helper(); return b.ok(api.Act{Kind: api.ActFlush, N: n}) }
func (b both) leases() api.Reply       { b.t.Helper(); return b.ok(api.Act{Kind: api.ActLeases}) }
func (b both) flight() []api.Sent      { b.t.Helper(); return b.ok(api.Act{Kind: api.ActFlight}).Flight }
func (b both) disk() api.Disk          { b.t.Helper(); return b.ok(api.Act{Kind: api.ActDisk}).Disk }
func (b both) tables(h int) api.Tables {
	b.t.Helper()
	return b.ok(api.Act{Kind: api.ActTables, Host: h}).Tables
}
func (b both) view(h int) api.View {
	b.t.Helper()
	return b.ok(api.Act{Kind: api.ActView, Host: h}).View
}
func (b both) pods(h int) []api.Pod {
	b.t.Helper()
	return b.ok(api.Act{Kind: api.ActPods, Host: h}).Pods
}
func (b both) counts(h int) []int {
	b.t.Helper()
	return b.ok(api.Act{Kind: api.ActCounts, Host: h}).Counts
}
func (b both) send(h int, p []byte) api.Reply {
	b.t.Helper()
	return b.ok(api.Act{Kind: api.ActSend, Host: h, Bytes: p})
}
func (b both) raw(h int, p []byte) api.Reply {
	b.t.Helper()
	return b.ok(api.Act{Kind: api.ActRaw, Host: h, Bytes: p})
}

// steps lets a host's agent make n steps.
func (b both) steps(h int, n int64) api.Reply {
	b.t.Helper()
	return b.ok(api.Act{Kind: api.ActStep, Host: h, N: n})
}

// asks lets a host's agent make a step for each kind, which must be what it asks for then.
func (b both) asks(h int, kinds ...int) {
	b.t.Helper()
	for i, kind := range kinds {
		if r := b.steps(h, 1); r.Req != kind {
			b.t.Fatalf("P19.5: step %d of host %d asks for %d, want %d", i, h, r.Req, kind)
		}
	}
}

// calm is a Calm that comes to an end: behind so many rounds.
func (b both) calm() int64 {
	b.t.Helper()
	r := b.ok(api.Act{Kind: api.ActCalm})
	if r.N < 1 {
		b.t.Fatalf("P19.8: Calm = %s", brief(r))
	}
	return r.N
}

// pod lets a host have a pod.
func (b both) pod(h int, name string) api.Addr {
	b.t.Helper()
	return api.Addr(b.ok(api.Act{Kind: api.ActPod, Host: h, Name: name}).N)
}

func (b both) unpod(h int, name string) api.Addr {
	b.t.Helper()
	return api.Addr(b.ok(api.Act{Kind: api.ActUnpod, Host: h, Name: name}).N)
}

// rev is the store's revision.
func (b both) rev() int64 {
	b.t.Helper()
	return b.leases().N
}

// hasRev: the store's revision is that.
func (b both) hasRev(want int64) {
	b.t.Helper()
	if got := b.rev(); got != want {
		b.t.Fatalf("P19: the revision is %d, want %d", got, want)
	}
}

// check asks both all that can be asked without a change.
func (b both) check() {
	b.t.Helper()
	for _, kind := range []int{api.ActLeases, api.ActFlight, api.ActDisk} {
		b.do(api.Act{Kind: kind})
	}
	for h := range b.w.hosts {
		for _, kind := range []int{api.ActTables, api.ActView, api.ActPods, api.ActCounts} {
			b.do(api.Act{Kind: kind, Host: h})
		}
	}
}

// cluster is a calm world with the pods cli (10.5.1.2 on host 0), web (10.5.2.2 on host 1) and log (10.5.3.2 on host 2).
func cluster(t *testing.T, changes ...func(*api.Config)) both {
	t.Helper()
	b := begun(t, config(changes...))
	b.calm()
	for h, name := range []string{"cli", "web", "log"} {
		if a := b.pod(h, name); a != at(h+1, 2) {
			t.Fatalf("P19.9: pod %s has %08x", name, a)
		}
	}
	return b
}

var cli, web, far = at(1, 2), at(2, 2), at(3, 2)

// run is n bytes: 1, 2 and so on.
func run(n int) []byte {
	b := make([]byte, n)
	for i := range b {
		b[i] = byte(i + 1)
	}
	return b
}

// udp is a packet with ten bytes of body.
func udp(src, dst api.Addr, ttl byte) api.Packet {
	return api.Packet{Head: api.Head{ID: 5, TTL: ttl, Proto: 17, Src: src, Dst: dst}, Body: run(10)}
}

// sized is a packet with that total length.
func sized(p api.Packet, total int) api.Packet {
	p.Body = run(total - 20 - len(p.Head.Opts))
	return p
}

func withDF(p api.Packet) api.Packet {
	p.Head.DF = true
	return p
}

// ping is an echo request with n bytes.
func ping(src, dst api.Addr, ttl byte, n int) api.Packet {
	p := udp(src, dst, ttl)
	p.Head.Proto = api.ProtoICMP
	p.Body, _ = icmp.Build(api.Control{Type: 8, Rest: 77, Body: run(n)})
	return p
}

// fault is one that a host could have told of a packet.
func fault(p api.Packet, from api.Addr) api.Packet {
	q, err := icmp.Fault(p, 3, 1, 0, from)
	if err != api.OK {
		panic(err)
	}
	return q
}

// wire is a packet's bytes. (A packet of the tests may always be.)
func wire(p api.Packet) []byte {
	b, err := ip4.Build(p)
	if err != api.OK {
		panic(err)
	}
	return b
}

// sealed is bytes in a frame for host h, as another host would seal them.
func sealed(h int, inner []byte) []byte {
	f := api.Frame{Dst: mac(h, 0), Src: api.MAC{2, 9}, Type: api.TypeIPv4, Body: inner}
	return sealedFrame(h, f, 8472, 1)
}

func sealedFrame(h int, f api.Frame, port uint16, vni int) []byte {
	b, err := tunnel.Seal(api.Outer{Src: pub(9), Dst: pub(h), SrcPort: 50000, DstPort: port, TTL: 64, VNI: vni}, f)
	if err != api.OK {
		panic(err)
	}
	return b
}

// parsed is the packet of bytes that must be one.
func parsed(t *testing.T, b []byte) api.Packet {
	t.Helper()
	p, err := ip4.Parse(b)
	if err != api.OK {
		t.Fatalf("P19.10: %x is no packet: %d", b, err)
	}
	return p
}

// inner is what is sealed in a packet of the underlay.
func inner(t *testing.T, s api.Sent) api.Packet {
	t.Helper()
	_, f, err := tunnel.Open(s.Bytes)
	if err != api.OK {
		t.Fatalf("P19.10: %x is no sealed packet: %d", s.Bytes, err)
	}
	return parsed(t, f.Body)
}

// same tells whether two replies tell the same; a list without elements may be nil or empty.
func same(r, s api.Reply) bool {
	return reflect.DeepEqual(twin(r), twin(s))
}

// list is a list in memory of its own; nil, if it is empty.
func list[E any](l []E) []E { return append([]E(nil), l...) }

func tablesTwin(t api.Tables) api.Tables {
	return api.Tables{Routes: list(t.Routes), Neighs: list(t.Neighs), Fdbs: list(t.Fdbs)}
}

// twin is the same reply in memory of its own, with nil where a list is empty.
func twin(r api.Reply) api.Reply {
	r.Given, r.Flight = list(r.Given), list(r.Flight)
	for i := range r.Given {
		r.Given[i].Bytes = list(r.Given[i].Bytes)
	}
	for i := range r.Flight {
		r.Flight[i].Bytes = list(r.Flight[i].Bytes)
	}
	r.Leases, r.Pods, r.Counts = list(r.Leases), list(r.Pods), list(r.Counts)
	r.Tables, r.View.Have = tablesTwin(r.Tables), tablesTwin(r.View.Have)
	r.View.Leases, r.View.Skipped = list(r.View.Leases), list(r.View.Skipped)
	r.Disk = api.Disk{A: list(r.Disk.A), B: list(r.Disk.B)}
	return r
}

// brief is a text of moderate length; of a reply what it has.
func brief(v any) string {
	s := fmt.Sprintf("%+v", v)
	if r, ok := v.(api.Reply); ok {
		s = "{"
		for i, f := range reflect.ValueOf(twin(r)).Fields() {
			if !f.IsZero() {
				s += fmt.Sprintf(" %s:%+v", i.Name, f.Interface())
			}
		}
		s += " }"
	}
	if len(s) > 900 {
		s = s[:900] + ".."
	}
	return s
}

func sameDisk(d, e api.Disk) bool { return bytes.Equal(d.A, e.A) && bytes.Equal(d.B, e.B) }

// locals is the local routes of tables.
func locals(t api.Tables) []api.Route {
	return slices.DeleteFunc(list(t.Routes), func(r api.Route) bool { return !r.Local })
}

// farInts is what is no number of a host, a packet or a kind, whatever there is.
var farInts = []int{-1 << 63, -1<<63 + 1, -1 << 32, -2, -1, 1 << 31, 1 << 32, 1<<63 - 2, 1<<63 - 1}

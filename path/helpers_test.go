package path

import (
	"bytes"
	"fmt"
	"math/rand"
	"slices"
	"testing"

	"weft/api"
	"weft/icmp"
	"weft/ip4"
	"weft/tables"
	"weft/tunnel"
)

// dice rolls the same way in every run.
func dice() *rand.Rand {
	return rand.New(rand.NewSource(17))
}

func quad(a, b, c, d int) api.Addr {
	return api.Addr(a)<<24 + api.Addr(b)<<16 + api.Addr(c)<<8 + api.Addr(d)
}

// at is the address 10.5.c.d.
func at(c, d int) api.Addr { return quad(10, 5, c, d) }

func sub(a api.Addr, n int) api.Prefix { return api.Prefix{Addr: a, Len: n} }

// pub and mac are of the host that has 10.5.k.0/24.
func pub(k int) api.Addr { return quad(192, 0, 2, 9+k) }

func mac(k int) api.MAC { return api.MAC{2, 0, 192, 0, 2, byte(9 + k)} }

func env(k, mtu int) api.Env {
	return api.Env{Pub: pub(k), MAC: mac(k), VNI: 1, Port: 8472, MTU: mtu}
}

func putLocal(a api.Addr, n int) api.Op {
	return api.Op{Kind: api.PutRoute, Route: api.Route{Dst: sub(a, n), Local: true}}
}

func putVia(a api.Addr, n int, via api.Addr) api.Op {
	return api.Op{Kind: api.PutRoute, Route: api.Route{Dst: sub(a, n), Via: via}}
}

func delRoute(a api.Addr, n int) api.Op {
	return api.Op{Kind: api.DelRoute, Route: api.Route{Dst: sub(a, n)}}
}

func putNeigh(ip api.Addr, m api.MAC) api.Op {
	return api.Op{Kind: api.PutNeigh, Neigh: api.Neigh{IP: ip, MAC: m}}
}

func delNeigh(ip api.Addr) api.Op {
	return api.Op{Kind: api.DelNeigh, Neigh: api.Neigh{IP: ip}}
}

func putFdb(m api.MAC, to api.Addr) api.Op {
	return api.Op{Kind: api.PutFdb, Fdb: api.Fdb{MAC: m, To: to}}
}

func delFdb(m api.MAC) api.Op {
	return api.Op{Kind: api.DelFdb, Fdb: api.Fdb{MAC: m}}
}

// The chapter's pods, and the gateways of their hosts.
var (
	cli, web     = at(1, 2), at(2, 2)
	here, beyond = at(1, 1), at(2, 1)
)

// run is n bytes: 1, 2 and so on.
func run(n int) []byte {
	b := make([]byte, n)
	for i := range b {
		b[i] = byte(i + 1)
	}
	return b
}

// udp is the chapter's "A to B, n".
func udp(src, dst api.Addr, ttl byte) api.Packet {
	return api.Packet{Head: api.Head{ID: 5, TTL: ttl, Proto: 17, Src: src, Dst: dst}, Body: run(10)}
}

// sized is a packet with that total length.
func sized(p api.Packet, total int) api.Packet {
	p.Body = run(total - 20 - len(p.Head.Opts))
	return p
}

func withDF(p api.Packet) api.Packet {
	p.Head.DF = true
	return p
}

func withTTL(p api.Packet, ttl byte) api.Packet {
	p.Head.TTL = ttl
	return p
}

func withOpts(p api.Packet, opts ...byte) api.Packet {
	p.Head.Opts = opts
	return p
}

// message is a packet with a control message in it.
func message(src, dst api.Addr, ttl byte, c api.Control) api.Packet {
	body, _ := icmp.Build(c)
	p := udp(src, dst, ttl)
	p.Head.Proto, p.Body = 1, body
	return p
}

func ping(src, dst api.Addr, ttl byte) api.Packet {
	return message(src, dst, ttl, api.Control{Type: 8, Rest: 77, Body: []byte("abc")})
}

// pong is what a host makes of a ping.
func pong(src, dst api.Addr) api.Packet {
	p := message(src, dst, 64, api.Control{Rest: 77, Body: []byte("abc")})
	p.Head.ID = 0
	return p
}

// raw is a packet's bytes. (A packet of the tests may always be.)
func raw(p api.Packet) []byte {
	b, err := ip4.Build(p)
	if err != api.OK {
		panic(err)
	}
	return b
}

// spoilt is a packet's bytes, with one turned over.
func spoilt(p api.Packet, i int) []byte {
	b := raw(p)
	b[i] ^= 0xff
	return b
}

// sealedTo is a packet in a frame as it comes in at the host k.
func sealedTo(k int, inner []byte) []byte {
	return wrapped(env(3-k, 1500), mac(k), pub(k), inner)
}

// brief is the front of what there is to tell: packets may be long.
func brief(v any) string {
	return fmt.Sprintf("%.400s", fmt.Sprintf("%+v", v))
}

func sameResult(a, b api.Result) bool {
	return a.Verdict == b.Verdict && a.Err == b.Err && slices.EqualFunc(a.Local, b.Local, sameGiven) && slices.EqualFunc(a.Out, b.Out, sameSent)
}

func sameGiven(a, b api.Given) bool {
	return a.Host == b.Host && a.To == b.To && a.Name == b.Name && bytes.Equal(a.Bytes, b.Bytes)
}

func sameSent(a, b api.Sent) bool {
	return a.To == b.To && bytes.Equal(a.Bytes, b.Bytes)
}

// both is a datapath beside its model, on one kernel: each call asks both, and holds their answers against each other.
type both struct {
	t *testing.T
	p *Path
	m *model
	k *tables.Kernel
}

func over(t *testing.T, e api.Env, k *tables.Kernel) both {
	t.Helper()
	p, err := New(e, k)
	if p == nil || err != api.OK {
		t.Fatalf("P17.1: New(%+v) = %v, %d", e, p, err)
	}
	return both{t, p, &model{env: e, k: k}, k}
}

// begun is a datapath of the host of 10.5.1.0/24 over a kernel with these lines.
func begun(t *testing.T, mtu int, ops ...api.Op) both {
	t.Helper()
	k, _ := tables.New(64, 64, 64)
	return over(t, env(1, mtu), k).does(ops...)
}

// ends is the chapter's lines of the host k.
func ends(k int) []api.Op {
	o := 3 - k
	return []api.Op{putLocal(at(k, 0), 24), putVia(at(o, 0), 24, at(o, 0)), putNeigh(at(o, 0), mac(o)), putFdb(mac(o), pub(o))}
}

// host is one of the chapter's two hosts: 1 has cli, 2 has web.
func host(t *testing.T, k, mtu int) both {
	t.Helper()
	kernel, _ := tables.New(64, 64, 64)
	return over(t, env(k, mtu), kernel).does(ends(k)...).binds([]string{"cli", "web"}[k-1], at(k, 2))
}

// does changes the kernel.
func (b both) does(ops ...api.Op) both {
	b.t.Helper()
	if n, err := b.k.Do(ops...); n != len(ops) || err != api.OK {
		b.t.Fatalf("the kernel did %d of %d: %d", n, len(ops), err)
	}
	return b
}

func (b both) bind(name string, a api.Addr) api.Errno {
	b.t.Helper()
	got, want := b.p.Bind(name, a), b.m.bind(name, a)
	if got != want {
		b.t.Fatalf("P17.2: Bind(%q, %x) = %d, want %d", name, a, got, want)
	}
	return got
}

func (b both) unbind(a api.Addr) api.Errno {
	b.t.Helper()
	got, want := b.p.Unbind(a), b.m.unbind(a)
	if got != want {
		b.t.Fatalf("P17.2: Unbind(%x) = %d, want %d", a, got, want)
	}
	return got
}

func (b both) bound() []api.Pod {
	b.t.Helper()
	got, want := b.p.Bound(), b.m.bound()
	if !slices.Equal(got, want) {
		b.t.Fatalf("P17.2: Bound = %v, want %v", got, want)
	}
	return got
}

func (b both) counts() []int {
	b.t.Helper()
	got := b.p.Counts()
	if !slices.Equal(got, b.m.counts[:]) {
		b.t.Fatalf("P17.9: Counts = %v, want %v", got, b.m.counts)
	}
	return got
}

// binds binds a name at addresses that are free.
func (b both) binds(name string, list ...api.Addr) both {
	b.t.Helper()
	for _, a := range list {
		if err := b.bind(name, a); err != api.OK {
			b.t.Fatalf("P17.2: Bind(%q, %x) = %d", name, a, err)
		}
	}
	return b
}

func (b both) send(packet []byte) outcome {
	b.t.Helper()
	got, want := b.p.Send(packet), b.m.send(packet)
	if !sameResult(got, want) {
		b.t.Fatalf("P17.4: Send(%s) = %s, want %s", brief(packet), brief(got), brief(want))
	}
	b.counts()
	return outcome{b, got}
}

func (b both) receive(packet []byte) outcome {
	b.t.Helper()
	got, want := b.p.Receive(packet), b.m.receive(packet)
	if !sameResult(got, want) {
		b.t.Fatalf("P17.6: Receive(%s) = %s, want %s", brief(packet), brief(got), brief(want))
	}
	b.counts()
	return outcome{b, got}
}

// sends and receives are those of a packet; of one that is received it comes in a frame for this host.
func (b both) sends(p api.Packet) outcome {
	b.t.Helper()
	return b.send(raw(p))
}

func (b both) receives(p api.Packet) outcome {
	b.t.Helper()
	return b.receive(wrapped(env(2, 1500), b.m.env.MAC, b.m.env.Pub, raw(p)))
}

// outcome is what a call of a datapath answered.
type outcome struct {
	b both
	r api.Result
}

func (o outcome) fails(format string, args ...any) outcome {
	o.b.t.Helper()
	o.b.t.Errorf(format+"; the answer is %s", append(args, brief(o.r))...)
	return o
}

// is tells the verdict, with no error beside it.
func (o outcome) is(verdict int) outcome {
	o.b.t.Helper()
	return o.isWith(verdict, api.OK)
}

func (o outcome) isWith(verdict int, err api.Errno) outcome {
	o.b.t.Helper()
	if o.r.Verdict != verdict || o.r.Err != err {
		return o.fails("P17.3: verdict %d with %d, want %d with %d", o.r.Verdict, o.r.Err, verdict, err)
	}
	return o
}

// only tells that nothing comes of it besides the verdict.
func (o outcome) only(verdict int) {
	o.b.t.Helper()
	o.is(verdict).nothing()
}

func (o outcome) nothing() {
	o.b.t.Helper()
	if len(o.r.Local) != 0 || len(o.r.Out) != 0 {
		o.fails("P17.3: %d given and %d sent, want nothing", len(o.r.Local), len(o.r.Out))
	}
}

// gives tells that a pod got just that packet, and that nothing went out.
func (o outcome) gives(name string, p api.Packet) {
	o.b.t.Helper()
	want := api.Given{To: p.Head.Dst, Name: name, Bytes: raw(p)}
	if len(o.r.Local) != 1 || len(o.r.Out) != 0 || !sameGiven(o.r.Local[0], want) {
		o.fails("P17.3: want %s given", brief(want))
	}
}

// puts tells that just these packets went out, sealed, all to the other of the chapter's hosts, and that nobody got anything.
func (o outcome) puts(list ...api.Packet) {
	o.b.t.Helper()
	o.putsTo(pub(2), mac(2), list...)
}

func (o outcome) putsTo(to api.Addr, m api.MAC, list ...api.Packet) {
	o.b.t.Helper()
	if len(o.r.Local) != 0 || len(o.r.Out) != len(list) {
		o.fails("P17.3: %d given and %d sent, want %d sent", len(o.r.Local), len(o.r.Out), len(list))
		return
	}
	for i, p := range list {
		outer, frame, err := tunnel.Open(o.r.Out[i].Bytes)
		e := o.b.m.env
		wantFrame := api.Frame{Dst: m, Src: e.MAC, Type: 0x0800, Body: raw(p)}
		want := api.Outer{Src: e.Pub, Dst: to, SrcPort: tunnel.Flow(wantFrame), DstPort: uint16(e.Port), TTL: 64, VNI: e.VNI}
		if err != api.OK || o.r.Out[i].To != to || outer != want || frame.Dst != m || frame.Src != e.MAC || frame.Type != 0x0800 || !bytes.Equal(frame.Body, raw(p)) {
			o.fails("P17.7: packet %d is %+v, %s to %x, want %+v to %x", i, outer, brief(frame), o.r.Out[i].To, want, to)
		}
	}
}

// faultOf is the fault about a packet, by hand.
func faultOf(p api.Packet, typ, code byte, arg int, from api.Addr) api.Packet {
	quote := raw(p)[:20+len(p.Head.Opts)+min(8, len(p.Body))]
	q := message(from, p.Head.Src, 64, api.Control{Type: typ, Code: code, Rest: uint32(arg), Body: quote})
	q.Head.ID = 0
	return q
}

// tells tells that cli got a fault about a packet, from its host's gateway.
func (o outcome) tells(p api.Packet, typ, code byte, arg int) {
	o.b.t.Helper()
	o.gives("cli", faultOf(p, typ, code, arg, here))
}

func parsed(t *testing.T, b []byte) api.Packet {
	t.Helper()
	p, err := ip4.Parse(b)
	if err != api.OK {
		t.Fatalf("ip4.Parse(%x) = %d", b, err)
	}
	return p
}

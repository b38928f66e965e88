package path

import (
	"bytes"
	"math"
	"math/rand"
	"slices"
	"sync"
	"testing"

	"weft/api"
	"weft/ip4"
	"weft/tables"
	"weft/tunnel"
)

// places is addresses of every kind that the dice's kernels know: edges, pods, holes, other classes.
func places() []api.Addr {
	list := []api.Addr{quad(10, 9, 0, 1), quad(200, 1, 2, 3), quad(128, 0, 0, 0), quad(128, 0, 0, 1), 0, 1, quad(127, 0, 0, 1), quad(224, 0, 0, 1), math.MaxUint32}
	for _, d := range []int{0, 1, 2, 3, 4, 8, 9, 10, 11, 64, 65, 128, 129, 130, 131, 254, 255} {
		list = append(list, at(1, d))
	}
	for _, d := range []int{0, 1, 2, 3, 255} {
		list = append(list, at(2, d), at(2, d), at(3, d))
	}
	return list
}

func anyPlace(r *rand.Rand) api.Addr {
	if r.Intn(4) > 0 {
		return []api.Addr{cli, web, here, beyond, at(1, 3), at(2, 3), at(3, 3)}[r.Intn(7)]
	}
	list := places()
	return list[r.Intn(len(list))]
}

// anyLine is a change of the dice's kernels. Their neighbours and entries are few, so that ways come about and break off.
func anyLine(r *rand.Rand) api.Op {
	subnets := []api.Prefix{sub(at(1, 0), 24), sub(at(1, 0), 24), sub(at(2, 0), 24), sub(at(2, 0), 24), sub(at(3, 0), 24), sub(at(1, 8), 30), sub(at(1, 64), 31), sub(at(1, 128), 30), sub(at(1, 9), 32),
		sub(at(1, 0), 25), sub(quad(10, 4, 0, 0), 14), sub(quad(128, 0, 0, 0), 1), sub(0, 0), sub(at(1, 254), 31)}
	s := subnets[r.Intn(len(subnets))]
	via, m := api.Addr(r.Intn(3)), mac(r.Intn(3))
	switch r.Intn(10) {
	case 0, 1, 2:
		return putLocal(s.Addr, s.Len)
	case 3, 4, 5:
		return putVia(s.Addr, s.Len, via)
	case 6:
		return delRoute(s.Addr, s.Len)
	case 7:
		return putNeigh(via, m)
	case 8:
		return putFdb(m, pub(r.Intn(4)))
	}
	return []api.Op{delNeigh(via), delFdb(m)}[r.Intn(2)]
}

// anyBody is a body for a protocol: of control messages mostly one that may be.
func anyBody(r *rand.Rand, proto byte) []byte {
	n := []int{0, 1, 7, 8, 9, 10, 16, 48, 56, 57, 64, 80, 200, 1400, 1500}[r.Intn(15)]
	body := run(n)
	if proto == 1 && n >= 8 && r.Intn(8) > 0 {
		body[0], body[1] = []byte{8, 8, 8, 8, 0, 3, 4, 5, 11, 12, 13}[r.Intn(11)], byte(r.Intn(8)/7)
		put16(body[2:], 0)
		put16(body[2:], inverse(body))
	}
	return body
}

var optionAreas = [][]byte{nil, nil, nil, nil, {1, 1, 1, 1}, {7, 3, 4, 0}, {0x83, 7, 4, 10, 9, 9, 9, 1}, {0x83, 7, 4, 10, 9, 9, 9, 7, 3, 4, 1, 0}, append([]byte{0x88, 40}, make([]byte, 38)...)}

// anyPacket is mostly a packet that may be, sometimes with bytes behind it, without its end, or spoilt.
func anyPacket(r *rand.Rand) []byte {
	p := udp(anyPlace(r), anyPlace(r), []byte{0, 1, 2, 3, 64, 64, 64, 255}[r.Intn(8)])
	p.Head.TOS, p.Head.ID = byte(r.Intn(256)), uint16(r.Intn(1<<16))
	p.Head.Proto = []byte{1, 1, 6, 17}[r.Intn(4)]
	p.Head.DF = r.Intn(3) == 0
	p.Head.Opts = optionAreas[r.Intn(len(optionAreas))]
	p.Body = anyBody(r, p.Head.Proto)
	if r.Intn(6) == 0 {
		p.Head.Off = 8 * r.Intn(3)
	}
	if r.Intn(6) == 0 && len(p.Body) >= 8 {
		p.Head.MF, p.Body = true, p.Body[:len(p.Body)/8*8]
	}
	b := raw(p)
	switch r.Intn(16) {
	case 0:
		b = b[:r.Intn(len(b))]
	case 1:
		b[r.Intn(len(b))] ^= 1 << r.Intn(8)
	case 2, 3, 4:
		b = append(b, run(1+r.Intn(60))...)
	}
	return b
}

// anyFrame is a packet as it comes in, mostly in a frame for this host.
func anyFrame(r *rand.Rand, e api.Env) []byte {
	s := sealing{api.Outer{Src: pub(2), Dst: e.Pub, SrcPort: 1, DstPort: uint16(e.Port), TTL: byte(r.Intn(3)), VNI: e.VNI}, api.Frame{Dst: e.MAC, Src: mac(2), Type: 0x0800, Body: anyPacket(r)}}
	for r.Intn(4) == 0 {
		switch r.Intn(6) {
		case 0:
			s.outer.Dst = pub(r.Intn(3))
		case 1:
			s.outer.DstPort ^= 1 << r.Intn(16)
		case 2:
			s.outer.VNI ^= 1 << r.Intn(24)
		case 3:
			s.frame.Dst[r.Intn(6)] ^= 1 << r.Intn(8)
		case 4:
			s.frame.Type = 0x0800 + uint16(r.Intn(8))
		}
	}
	b := s.bytes()
	switch r.Intn(12) {
	case 0:
		b = b[:r.Intn(len(b))]
	case 1:
		b[r.Intn(min(len(b), 60))] ^= 1 << r.Intn(8)
		b = resummed(b[:max(20, len(b))])
	case 2:
		b = append(b, run(1+r.Intn(60))...)
	}
	return b
}

func anyEnv(r *rand.Rand) api.Env {
	e := env(1, []int{126, 127, 133, 134, 200, 1500, 9000}[r.Intn(7)])
	if r.Intn(3) == 0 {
		e = api.Env{Pub: api.Addr(r.Uint32()), MAC: api.MAC{byte(r.Intn(256))}, VNI: r.Intn(1 << 24), Port: 1 + r.Intn(65535), MTU: 126 + r.Intn(300)}
	}
	return e
}

// started is a datapath with a kernel and pods by dice.
func started(t *testing.T, r *rand.Rand) both {
	t.Helper()
	k, _ := tables.New(64, 64, 64)
	b := over(t, anyEnv(r), k).does(ends(1)...)
	b.bind("cli", cli)
	for range r.Intn(12) {
		b.bind([]string{"", "a", "b"}[r.Intn(3)], anyPlace(r))
	}
	for range r.Intn(8) {
		b.does(anyLine(r))
	}
	return b
}

// Calls by dice, against the model, each verdict often enough.
func TestP0_1AnySteps(t *testing.T) {
	r := dice()
	var seen [22]int
	for range 400 {
		b := started(t, r)
		for range 100 {
			switch r.Intn(12) {
			case 0:
				b.bind("n", anyPlace(r))
			case 1:
				b.unbind(anyPlace(r))
			case 2:
				b.does(anyLine(r))
			case 3, 4, 5, 6, 7:
				confined(b, b.send(anyPacket(r)).r, false)
			default:
				confined(b, b.receive(anyFrame(r, b.m.env)).r, true)
			}
		}
		b.bound()
		for v, n := range b.counts() {
			seen[v] += n
		}
	}
	for v, n := range seen[1:] {
		if n < 50 {
			t.Errorf("the dice brought verdict %d only %d times", v+1, n)
		}
	}
}

// confined tells what holds of every answer: Local and Out are not both filled, a pod has what goes to it, nothing that goes out is too long, and what was opened is not sealed again.
func confined(b both, r api.Result, received bool) {
	b.t.Helper()
	if len(r.Local) > 1 || len(r.Local) == 1 && len(r.Out) > 0 {
		b.t.Fatalf("P17.8: %d given and %d sent", len(r.Local), len(r.Out))
	}
	for _, g := range r.Local {
		p := parsed(b.t, g.Bytes)
		pod, there := b.m.pod(g.To)
		if w := b.m.way(g.To); !there || pod.Name != g.Name || p.Head.Dst != g.To || g.Host != 0 || w.route == nil || !w.route.Local {
			b.t.Fatalf("P17.5: %s given", brief(g))
		}
	}
	for _, s := range r.Out {
		outer, frame, err := tunnel.Open(s.Bytes)
		p, wrong := ip4.Parse(frame.Body)
		if err != api.OK || wrong != api.OK || outer.Dst != s.To || len(s.Bytes) > b.m.env.MTU {
			b.t.Fatalf("P17.7: %s sent: %d, %d", brief(s), err, wrong)
		}
		if own := p.Head.Proto == 1 && p.Head.TTL == 64 && p.Head.ID == 0; !own && (received || r.Verdict != api.VSent) {
			b.t.Fatalf("P17.8: %s sent with verdict %d", brief(s), r.Verdict)
		}
	}
}

// No call panics, whatever it is given.
func TestP0_1Anything(t *testing.T) {
	numbers := []int{math.MinInt, math.MinInt32, -1, 0, 1, 125, 126, 9000, 9001, 65535, 65536, 1<<24 - 1, 1 << 24, math.MaxInt32, math.MaxInt}
	k, _ := tables.New(9, 9, 9)
	for _, vni := range numbers {
		for _, port := range numbers {
			for _, mtu := range numbers {
				e := api.Env{VNI: vni, Port: port, MTU: mtu}
				p, err := New(e, k)
				if may := vni >= 0 && vni < 1<<24 && port >= 1 && port < 1<<16 && mtu >= 126 && mtu <= 9000; may != (p != nil) || may != (err == api.OK) || !may && err != api.ErrArg {
					t.Fatalf("P17.1: New(%+v) = %v, %d", e, p, err)
				}
			}
		}
	}
	b := host(t, 1, 126)
	for _, n := range []int{0, 1, 19, 20, 21, 59, 60, 61, 79, 80, 65535, 65536, 200000} {
		for _, fill := range []byte{0, 1, 0x45, 0x4f, 0xff} {
			packet := bytes.Repeat([]byte{fill}, n)
			b.send(packet).nothing()
			b.receive(packet).nothing()
		}
	}
	if got := b.counts(); got[api.VBadPacket] != 65 || got[api.VBadOuter] != 65 {
		t.Errorf("P17.9: %v", got)
	}
	r := dice()
	for range 3000 {
		packet := make([]byte, r.Intn(120))
		r.Read(packet)
		if len(packet) > 40 {
			packet[0] = 0x45 + byte(r.Intn(3))
			put16(packet[2:], 40+r.Intn(len(packet)-39))
			packet = resummed(packet)
			packet[6] &= 0x7f
			packet = resummed(packet)
		}
		b.send(packet)
		b.receive(packet)
	}
}

// Every front of a packet and of a frame, and every one with a bit turned.
func TestP0_1EveryFault(t *testing.T) {
	b := host(t, 1, 126)
	p := withOpts(udp(web, cli, 9), 7, 3, 4, 1)
	whole, frame := raw(p), sealedTo(1, raw(p))
	for n := range whole {
		b.send(whole[:n]).isWith(api.VBadPacket, api.ErrShort).nothing()
	}
	for n := range frame {
		b.receive(frame[:n]).isWith(api.VBadOuter, api.ErrShort).nothing()
	}
	for i := range whole {
		for bit := range 8 {
			bad := bytes.Clone(whole)
			bad[i] ^= 1 << bit
			b.send(bad)
			b.receive(sealedTo(1, bad))
		}
	}
	for i := range frame {
		for bit := range 8 {
			bad := bytes.Clone(frame)
			bad[i] ^= 1 << bit
			b.receive(bad)
			b.receive(resummed(bad))
		}
	}
}

// Datapaths in turns, some on one kernel: each answers as its model does.
func TestP0_5InTurns(t *testing.T) {
	r := dice()
	k, _ := tables.New(64, 64, 64)
	k.Do(ends(1)...)
	list := []both{over(t, env(1, 126), k), over(t, env(1, 1500), k), host(t, 1, 126), host(t, 2, 1500)}
	for range 4000 {
		b := list[r.Intn(len(list))]
		switch r.Intn(6) {
		case 0:
			b.bind("n", anyPlace(r))
			b.unbind(anyPlace(r))
		case 1:
			b.does(anyLine(r))
		case 2, 3:
			b.send(anyPacket(r))
		default:
			b.receive(anyFrame(r, b.m.env))
		}
		for _, c := range list {
			c.bound()
			c.counts()
		}
	}
}

// tale is all that a datapath answers to the same calls.
func tale(t *testing.T) []api.Result {
	r := dice()
	b := started(t, r)
	var told []api.Result
	for range 400 {
		if r.Intn(8) == 0 {
			b.p.Bind("n", anyPlace(r))
			b.p.Unbind(anyPlace(r))
			b.k.Do(anyLine(r))
		}
		told = append(told, b.p.Send(anyPacket(r)), b.p.Receive(anyFrame(r, b.m.env)))
	}
	return append(told, api.Result{Verdict: len(b.p.Bound())})
}

// Datapaths in goroutines of their own answer as one alone does.
func TestP0_5AtTheSameTime(t *testing.T) {
	want := tale(t)
	var group sync.WaitGroup
	for range 8 {
		group.Go(func() {
			if !slices.EqualFunc(tale(t), want, sameResult) {
				t.Error("P0.5: at the same time the answers are others")
			}
		})
	}
	group.Wait()
}

package world

import (
	"math"
	"math/rand"

	"weft/api"
	"weft/frag"
)

// grind makes acts by dice, of a world with a configuration.
type grind struct {
	r *rand.Rand
	c api.Config
}

// anyConfig is a configuration by dice, small enough for trouble; wide: its tables suffice.
func anyConfig(r *rand.Rand, wide bool) api.Config {
	hosts := 1 + r.Intn(6)
	room := func() int {
		if wide {
			return hosts + r.Intn(4)
		}
		return 1 + r.Intn(hosts+1)
	}
	c := config(withHosts(hosts), withLog(1+r.Intn(6)), withRoom(1+r.Intn(6)), withTables(room(), room(), room()))
	c.TTL = 2 + r.Int63n(60)
	c.Renew = 1 + r.Int63n(c.TTL-1)
	c.MTU = 126 + r.Intn(400)
	c.Max = at(1+r.Intn(hosts+3), 0)
	for h := range hosts {
		if r.Intn(4) == 0 {
			c.Reserved = append(c.Reserved, api.Reserve{Host: h, Subnet: sub(h * 2)})
		}
	}
	return c
}

func pick[E any](r *rand.Rand, l ...E) E { return l[r.Intn(len(l))] }

// host is mostly one that there is.
func (g grind) host() int {
	if g.r.Intn(60) == 0 {
		return pick(g.r, append(farInts, g.c.Hosts)...)
	}
	return g.r.Intn(g.c.Hosts)
}

// addr is mostly one that a pod may have.
func (g grind) addr() api.Addr {
	switch g.r.Intn(16) {
	case 0:
		return pick(g.r, quad(10, 9, 0, 1), quad(224, 0, 0, 1), 0, quad(127, 0, 0, 1), quad(255, 255, 255, 255), pub(0), quad(8, 8, 8, 8))
	case 1:
		return at(g.r.Intn(2*g.c.Hosts+3), pick(g.r, 0, 1, 255))
	}
	return at(1+g.r.Intn(g.c.Hosts+1), pick(g.r, 2, 2, 2, 3, 3, 4, 1))
}

func (g grind) ttl() byte { return pick[byte](g.r, 0, 1, 2, 3, 4, 64, 64, 64, 255) }

// packet is one of any kind, mostly a sound one.
func (g grind) packet() api.Packet {
	r := g.r
	p := udp(g.addr(), g.addr(), g.ttl())
	p.Head.ID = uint16(r.Intn(4))
	switch r.Intn(8) {
	case 0:
		p = ping(p.Head.Src, p.Head.Dst, p.Head.TTL, r.Intn(3)*200)
	case 1:
		q := fault(udp(web, cli, 9), at(1, 1))
		q.Head.Src, q.Head.Dst, q.Head.TTL = p.Head.Src, p.Head.Dst, p.Head.TTL
		return q
	}
	if p.Head.Proto == 17 && r.Intn(3) == 0 {
		p = sized(p, 20+r.Intn(2*g.c.MTU))
	}
	p.Head.DF = r.Intn(4) == 0
	if r.Intn(8) == 0 {
		p.Head.Opts = pick(r, []byte{1, 1, 1, 0}, []byte{0x83, 7, 4, 10, 9, 9, 9, 1}, []byte{7, 7, 4, 0, 0, 0, 0, 0})
	}
	if r.Intn(8) == 0 {
		p.Head.DF = false
		if pieces, err := frag.Split(p, 68); err == api.OK {
			return pick(r, pieces...)
		}
	}
	return p
}

// bytes is a packet's bytes, sometimes spoilt, cut off or with more behind them.
func (g grind) bytes() []byte {
	b := wire(g.packet())
	switch g.r.Intn(20) {
	case 0:
		b[g.r.Intn(len(b))] ^= byte(1 << g.r.Intn(8))
	case 1:
		b = b[:g.r.Intn(len(b))]
	case 2:
		b = append(b, run(g.r.Intn(9))...)
	}
	return b
}

// forged is what comes to a host by no host's doing.
func (g grind) forged(h int) []byte {
	r := g.r
	if r.Intn(10) == 0 {
		return g.bytes()
	}
	f := api.Frame{Dst: mac(h, r.Intn(2)), Src: mac(r.Intn(9), 0), Type: api.TypeIPv4, Body: g.bytes()}
	port, vni := uint16(g.c.Port), g.c.VNI
	switch r.Intn(20) {
	case 0:
		port++
	case 1:
		vni++
	case 2:
		f.Type++
	case 3:
		h++
	}
	return sealedFrame(h, f, port, vni)
}

func (g grind) name() string {
	if g.r.Intn(20) == 0 {
		return pick(g.r, "", "A", "-", "a b", "\xff")
	}
	return pick(g.r, "a", "b", "c", "d", "web", "cli")
}

// count is mostly small, sometimes about its bound.
func (g grind) count(most int64) int64 {
	switch g.r.Intn(40) {
	case 0:
		return pick[int64](g.r, 0, -1, most+1, math.MinInt64, math.MaxInt64)
	case 1:
		return 1 + g.r.Int63n(min(most, 40))
	}
	return 1 + g.r.Int63n(3)
}

func (g grind) ticks() int64 {
	switch g.r.Intn(30) {
	case 0:
		return pick[int64](g.r, -1, math.MinInt64, 0)
	case 1:
		return g.c.TTL
	case 2:
		return pick[int64](g.r, 1<<40, 1<<62)
	}
	return g.r.Int63n(1 + g.c.TTL/3)
}

// place is mostly one of the first in flight.
func (g grind) place() int {
	if g.r.Intn(40) == 0 {
		return pick(g.r, farInts...)
	}
	return g.r.Intn(3)
}

// kinds is how often each kind comes.
var kinds = func() []int {
	var all []int
	for kind, n := range []int{
		api.ActTick: 8, api.ActStep: 40, api.ActRound: 8, api.ActCalm: 1, api.ActCrash: 3, api.ActStart: 5, api.ActReboot: 2, api.ActFail: 4, api.ActMute: 4, api.ActPod: 9, api.ActUnpod: 3,
		api.ActSend: 18, api.ActRaw: 6, api.ActDeliver: 14, api.ActLose: 1, api.ActCopy: 2, api.ActSpoil: 3, api.ActFlush: 1, api.ActTear: 2, api.ActReopen: 4, api.ActRevoke: 3, api.ActLeases: 1,
		api.ActTables: 1, api.ActView: 1, api.ActPods: 1, api.ActFlight: 1, api.ActCounts: 1, api.ActHolder: 2, api.ActDisk: 1,
	} {
		for range n {
			all = append(all, kind)
		}
	}
	return all
}()

// act is any act, but for those that are left out.
func (g grind) act(without map[int]bool) api.Act {
	for {
		a := g.anyAct()
		if !without[a.Kind] {
			return a
		}
	}
}

func (g grind) anyAct() api.Act {
	r := g.r
	// Fields that a kind does not name are anything.
	a := api.Act{Kind: pick(r, kinds...), Host: g.host(), N: r.Int63() - r.Int63(), At: r.Int() - r.Int(), Name: g.name(), Bytes: run(r.Intn(3)), Addr: g.addr()}
	if r.Intn(200) == 0 {
		a.Kind = pick(r, append(farInts, 0, api.ActDisk+1)...)
	}
	if !named[a.Kind] && r.Intn(2) == 0 {
		a.Host = pick(r, farInts...)
	}
	switch a.Kind {
	case api.ActTick:
		a.N = g.ticks()
	case api.ActStep, api.ActRound:
		a.N = g.count(api.MaxSteps)
	case api.ActFlush:
		a.N = g.count(api.MaxFlush)
	case api.ActTear:
		a.N = pick(r, 0, 1, 10, 28, 29, 45, 60, 100, 1000, api.MaxArea, r.Int63n(80), g.count(api.MaxArea))
	case api.ActSend:
		a.Bytes = g.bytes()
	case api.ActRaw:
		a.Bytes = g.forged(max(0, min(a.Host, g.c.Hosts-1)))
	case api.ActDeliver, api.ActLose, api.ActCopy:
		a.At = g.place()
	case api.ActSpoil:
		a.At, a.N, a.Bytes = g.place(), int64(r.Intn(130))-2, run(pick(r, 0, 1, 1, 1, 1, 1, 2))
		if len(a.Bytes) > 0 {
			a.Bytes[0] = byte(r.Intn(256)) & byte(r.Intn(256))
		}
	}
	return a
}

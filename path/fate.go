package path

import (
	"weft/api"
	"weft/frag"
	"weft/icmp"
	"weft/ip4"
	"weft/tunnel"
)

// The faults that a datapath tells.
const (
	unreachable  = 3 // by one of these codes
	noNet        = 0
	noHost       = 1
	tooBig       = 4
	timeExceeded = 11 // by this code
	inTransit    = 0
)

const outerTTL = 64

// deliver gives the packet to its pod.
func (t *transit) deliver() {
	// What was read, and has time left, is aged without fail.
	aged, _ := ip4.Age(t.bytes)
	t.give(t.dst(), aged)
}

func (t *transit) give(to api.Addr, b []byte) {
	given := api.Given{To: to, Name: t.path.pods[to].Name, Bytes: b}
	t.result.Local = append(t.result.Local, given)
}

// forward seals the packet for the host that has its pod.
func (t *transit) forward() {
	p := t.packet
	p.Head.TTL--
	t.seal(p, t.hop)
}

// seal puts a packet into the underlay, in as many pieces as it needs; none, if it may not be split.
func (t *transit) seal(p api.Packet, hop api.Hop) {
	pieces, _ := frag.Split(p, t.path.innerMTU())
	for _, piece := range pieces {
		t.result.Out = append(t.result.Out, t.path.sealed(piece, hop))
	}
}

// sealed is one piece, wrapped. None is too long to be built or sealed: Split cut it to fit.
func (p *Path) sealed(piece api.Packet, hop api.Hop) api.Sent {
	body, _ := ip4.Build(piece)
	frame := api.Frame{Dst: hop.MAC, Src: p.env.MAC, Type: api.TypeIPv4, Body: body}
	outer := api.Outer{Src: p.env.Pub, Dst: hop.To, SrcPort: tunnel.Flow(frame), DstPort: uint16(p.env.Port), TTL: outerTTL, VNI: p.env.VNI}
	b, _ := tunnel.Seal(outer, frame)
	return api.Sent{To: hop.To, Bytes: b}
}

func (t *transit) tellNoNet()   { t.tell(unreachable, noNet, 0) }
func (t *transit) tellNoHost()  { t.tell(unreachable, noHost, 0) }
func (t *transit) tellTooBig()  { t.tell(unreachable, tooBig, t.path.innerMTU()) }
func (t *transit) tellTimeOut() { t.tell(timeExceeded, inTransit, 0) }

// tell tells the packet's sender of a fault, where one may be told.
func (t *transit) tell(typ, code byte, arg int) {
	from, there := t.path.gateway()
	if !there {
		return
	}
	if q, err := icmp.Fault(t.packet, typ, code, arg, from); err == api.OK {
		t.sendOwn(q)
	}
}

// answer replies to an echo request; other packets for the host itself end here.
func (t *transit) answer() {
	if q, err := icmp.Echo(t.packet); err == api.OK {
		t.sendOwn(q)
	}
}

// sendOwn sends a packet that the host made itself. It goes past the rows: whatever becomes of it brings no fault, or faults could go on for ever.
func (t *transit) sendOwn(q api.Packet) {
	hop, err := t.path.kernel.Resolve(q.Head.Dst)
	switch {
	case err != api.OK:
		return
	case hop.Local:
		t.giveOwn(q, hop.Dst)
	default:
		t.seal(q, hop)
	}
}

// giveOwn gives a packet of the host's own to a pod, if there is one where it goes.
func (t *transit) giveOwn(q api.Packet, route api.Prefix) {
	to := q.Head.Dst
	if isBroadcast(route, to) || isGateway(route, to) || !t.path.isBound(to) {
		return
	}
	// Fault and Echo make no packet that may not be.
	b, _ := ip4.Build(q)
	t.give(to, b)
}

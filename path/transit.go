package path

import (
	"slices"

	"weft/addr"
	"weft/api"
	"weft/ip4"
	"weft/tunnel"
)

// transit is a packet on its way through the datapath, with what the steps so far have found out about it.
type transit struct {
	path   *Path
	bytes  []byte // what is to be read next: what came in, later what was inside of it
	outer  api.Outer
	frame  api.Frame
	packet api.Packet
	hop    api.Hop
	way    api.Errno // what the kernel said beside hop
	result api.Result
}

// step is one thing that may become of a packet: whether it does, as far as none ahead of it did, and what is made then, or nil.
type step struct {
	verdict int
	stops   func() bool
	then    func()
}

// run goes along a row up to the first step that says stop. The last step of each row does.
func (t *transit) run(row []step) api.Result {
	for _, s := range row {
		if !s.stops() {
			continue
		}
		t.result.Verdict = s.verdict
		if s.then != nil {
			s.then()
		}
		break
	}
	t.path.counts[t.result.Verdict]++
	return t.result
}

// sending is the way of a packet from a pod. Its time runs out at one step, be its way local or remote.
func (t *transit) sending() []step {
	begin := []step{
		{verdict: api.VBadPacket, stops: t.isUnreadable},
		{verdict: api.VBadSrc, stops: t.hasBadSrc},
		{verdict: api.VBadDst, stops: t.hasBadDst},
		{verdict: api.VNoRoute, stops: t.hasNoWay, then: t.tellNoNet},
	}
	remote := []step{
		{verdict: api.VNoNeigh, stops: t.hasNoNeigh, then: t.tellNoHost},
		{verdict: api.VNoFdb, stops: t.hasNoFdb, then: t.tellNoHost},
		{verdict: api.VTooBig, stops: t.isTooBig, then: t.tellTooBig},
		{verdict: api.VSent, stops: t.always, then: t.forward},
	}
	return slices.Concat(begin, t.arriving(), remote)
}

// receiving is the way of a packet from the underlay. Behind VLoop none is left but those whose way is local.
func (t *transit) receiving() []step {
	begin := []step{
		{verdict: api.VBadOuter, stops: t.isUnopenable},
		{verdict: api.VNotMine, stops: t.isNotMine},
		{verdict: api.VBadPort, stops: t.hasBadPort},
		{verdict: api.VBadVNI, stops: t.hasBadVNI},
		{verdict: api.VBadMAC, stops: t.hasBadMAC},
		{verdict: api.VBadType, stops: t.hasBadType},
		{verdict: api.VBadInner, stops: t.isUnreadable},
		{verdict: api.VBadSrc, stops: t.hasBadSrc},
		{verdict: api.VBadDst, stops: t.hasBadDst},
		{verdict: api.VNoRoute, stops: t.hasNoWay},
		{verdict: api.VLoop, stops: t.isRemote},
	}
	return slices.Concat(begin, t.arriving())
}

// arriving is what becomes of a packet whose way is local. Others pass all of it, but for the one of their time.
func (t *transit) arriving() []step {
	return []step{
		{verdict: api.VBroadcast, stops: t.isForAll},
		{verdict: api.VHost, stops: t.isForHost, then: t.answer},
		{verdict: api.VTimeOut, stops: t.isTimedOut, then: t.tellTimeOut},
		{verdict: api.VNoPod, stops: t.hasNoPod, then: t.tellNoHost},
		{verdict: api.VDelivered, stops: t.isLocal, then: t.deliver},
	}
}

func (t *transit) isUnopenable() bool {
	t.outer, t.frame, t.result.Err = tunnel.Open(t.bytes)
	t.bytes = t.frame.Body
	return t.result.Err != api.OK
}

func (t *transit) isNotMine() bool  { return t.outer.Dst != t.path.env.Pub }
func (t *transit) hasBadPort() bool { return int(t.outer.DstPort) != t.path.env.Port }
func (t *transit) hasBadVNI() bool  { return t.outer.VNI != t.path.env.VNI }
func (t *transit) hasBadMAC() bool  { return t.frame.Dst != t.path.env.MAC }
func (t *transit) hasBadType() bool { return t.frame.Type != api.TypeIPv4 }

func (t *transit) isUnreadable() bool {
	t.packet, t.result.Err = ip4.Parse(t.bytes)
	return t.result.Err != api.OK
}

func (t *transit) hasBadSrc() bool { return addr.Class(t.packet.Head.Src) != 0 }
func (t *transit) hasBadDst() bool { return addr.Class(t.dst()) != 0 }

func (t *transit) dst() api.Addr { return t.packet.Head.Dst }

func (t *transit) hasNoWay() bool {
	t.hop, t.way = t.path.kernel.Resolve(t.dst())
	return t.way == api.ErrRoute
}

func (t *transit) isLocal() bool  { return t.hop.Local }
func (t *transit) isRemote() bool { return !t.hop.Local }

func (t *transit) isForAll() bool  { return t.isLocal() && isBroadcast(t.hop.Dst, t.dst()) }
func (t *transit) isForHost() bool { return t.isLocal() && isGateway(t.hop.Dst, t.dst()) }

// isTimedOut tells whether nothing is left of a packet's time once it is lowered here.
func (t *transit) isTimedOut() bool { return t.packet.Head.TTL <= 1 }

func (t *transit) hasNoPod() bool { return t.isLocal() && !t.path.isBound(t.dst()) }

func (t *transit) hasNoNeigh() bool { return t.way == api.ErrNeigh }
func (t *transit) hasNoFdb() bool   { return t.way == api.ErrFdb }

func (t *transit) isTooBig() bool {
	return t.packet.Head.DF && length(t.packet) > t.path.innerMTU()
}

// length is a packet's total length.
func length(p api.Packet) int { return headSize + len(p.Head.Opts) + len(p.Body) }

// headSize is a packet's header without options.
const headSize = 20

func (t *transit) always() bool { return true }

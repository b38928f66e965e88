package tunnel

import (
	"testing"

	"weft/api"
)

func leftMAC() api.MAC  { return api.MAC{2, 0, 0, 0, 0, 1} }
func rightMAC() api.MAC { return api.MAC{2, 0, 0, 0, 0, 2} }

// between is a frame from the left to the right.
func between(typ uint16, body []byte) api.Frame {
	return api.Frame{Dst: rightMAC(), Src: leftMAC(), Type: typ, Body: body}
}

func examplePacket() api.Packet {
	return api.Packet{Head: api.Head{TTL: 9, ID: 5, Proto: 6, Src: 0x0a000102, Dst: 0x0a000203}, Body: []byte("body")}
}

func isPort(t *testing.T, name string, f api.Frame, want uint16) {
	t.Helper()
	if port := Flow(f); port != want {
		t.Errorf("P7.5: %s: Flow(%s) = %d, want %d", name, brief(f), port, want)
	}
	checkFlow(t, f)
}

func TestP7_5Examples(t *testing.T) {
	isPort(t, "twelve zeros", api.Frame{Type: 0x0806}, 57545)
	isPort(t, "a packet", between(0x0800, packed(examplePacket())), 51784)
	isPort(t, "no packet", between(0x0800, []byte{1, 2, 3}), 55127)
	isPort(t, "no body", between(0x0800, nil), 55127)
	isPort(t, "another type", between(0x86dd, packed(examplePacket())), 55127)
	isPort(t, "bad types", between(0, packed(examplePacket())), 55127)
	isPort(t, "bad types", between(0x05ff, nil), 55127)
	isPort(t, "bad types", between(0x8100, packed(examplePacket())), 55127)
}

// Of a packet the addresses and the protocol count, and nothing else of it or of its frame.
func TestP7_5OneConversation(t *testing.T) {
	p := examplePacket()
	change := func(name string, same bool, change func(p *api.Packet)) {
		q := p
		change(&q)
		f := between(0x0800, packed(q))
		checkFlow(t, f)
		if (Flow(f) == 51784) != same {
			t.Errorf("P7.5: %s: the port is %d", name, Flow(f))
		}
		f.Src, f.Dst = api.MAC{}, ones()
		if (Flow(f) == 51784) != same {
			t.Errorf("P7.5: %s, in another frame: the port is %d", name, Flow(f))
		}
	}
	change("nothing", true, func(*api.Packet) {})
	change("TTL", true, func(p *api.Packet) { p.Head.TTL = 0 })
	change("ID", true, func(p *api.Packet) { p.Head.ID = 77 })
	change("TOS", true, func(p *api.Packet) { p.Head.TOS = 1 })
	change("DF", true, func(p *api.Packet) { p.Head.DF = true })
	change("options", true, func(p *api.Packet) { p.Head.Opts = unhex("83030400") })
	change("the body", true, func(p *api.Packet) { p.Body = run(1000) })
	change("no body", true, func(p *api.Packet) { p.Body = nil })
	change("a first piece", true, func(p *api.Packet) { p.Head.MF, p.Body = true, run(8) })
	change("a last piece", true, func(p *api.Packet) { p.Head.Off = 16 })
	change("a piece between", true, func(p *api.Packet) { p.Head.MF, p.Head.Off, p.Body = true, 1600, run(16) })
	change("the protocol", false, func(p *api.Packet) { p.Head.Proto = 17 })
	change("the source", false, func(p *api.Packet) { p.Head.Src++ })
	change("the destination", false, func(p *api.Packet) { p.Head.Dst++ })
	change("both turned round", false, func(p *api.Packet) { p.Head.Src, p.Head.Dst = p.Head.Dst, p.Head.Src })
}

// What ip4.Parse does not take is no packet; bytes behind one do not matter.
func TestP7_5SpoiltPackets(t *testing.T) {
	b := packed(examplePacket())
	isPort(t, "bytes behind", between(0x0800, append(packed(examplePacket()), 1, 2, 3)), 51784)
	for n := range b {
		isPort(t, "cut", between(0x0800, b[:n]), 55127)
	}
	for i := range 8 * len(b) {
		turned := set8(b, i/8, b[i/8]^1<<(i%8))
		checkFlow(t, between(0x0800, turned))
		if i >= 8 && i < 160 {
			isPort(t, "a turned bit", between(0x0800, turned), 55127)
		}
		if i >= 160 {
			isPort(t, "a turned bit of the body", between(0x0800, turned), 51784)
		}
	}
	isPort(t, "a wrong version", between(0x0800, set8(b, 0, 0x65)), 55127)
	isPort(t, "a short header", between(0x0800, set8(b, 0, 0x44)), 55127)
}

func TestP7_5EveryType(t *testing.T) {
	b := packed(examplePacket())
	for i := range 1 << 16 {
		want := uint16(55127)
		if i == 0x0800 {
			want = 51784
		}
		if port := Flow(between(uint16(i), b)); port != want {
			t.Fatalf("P7.5: the type %#x: the port is %d, want %d", i, port, want)
		}
	}
}

// Each byte of the hardware addresses counts, and their order.
func TestP7_5HardwareAddresses(t *testing.T) {
	base := between(0x0806, nil)
	for i := range 6 {
		for v := range 256 {
			f, g := base, base
			f.Src[i], g.Dst[i] = byte(v), byte(v)
			if port := checkFlow(t, f); f.Src != base.Src && port == 55127 {
				t.Errorf("P7.5: byte %d of the source does not count", i)
			}
			if port := checkFlow(t, g); g.Dst != base.Dst && port == 55127 {
				t.Errorf("P7.5: byte %d of the destination does not count", i)
			}
		}
	}
	base.Src, base.Dst = base.Dst, base.Src
	if checkFlow(t, base) == 55127 {
		t.Errorf("P7.5: the order of the addresses does not count")
	}
	all := api.MAC{255, 255, 255, 255, 255, 255}
	checkFlow(t, api.Frame{Dst: all, Src: all, Type: 0x0800})
	checkFlow(t, api.Frame{Dst: all, Type: 0x0800})
	checkFlow(t, api.Frame{Src: all, Type: 0x0800})
}

// The ports stay in their range, and are many.
func TestP7_5Range(t *testing.T) {
	roll := dice()
	seen := map[uint16]int{}
	for range 100000 {
		f := someFrame(roll)
		port := checkFlow(t, f)
		if port < 49152 {
			t.Fatalf("P7.5: Flow(%s) = %d", brief(f), port)
		}
		seen[port]++
	}
	if len(seen) < 15000 {
		t.Errorf("P7.5: only %d ports", len(seen))
	}
	for _, src := range edgeAddrs() {
		for _, dst := range edgeAddrs() {
			for _, proto := range []byte{0, 1, 255} {
				checkFlow(t, api.Frame{Type: 0x0800, Body: packed(api.Packet{Head: api.Head{Proto: proto, Src: src, Dst: dst}})})
			}
		}
	}
}

// Flow takes frames that no other call takes: a body longer than any packet too.
func TestP7_5LongBodies(t *testing.T) {
	b := packed(api.Packet{Head: examplePacket().Head, Body: make([]byte, 65515)})
	isPort(t, "the longest packet", between(0x0800, b), 51784)
	isPort(t, "many bytes behind it", between(0x0800, append(b, make([]byte, 1<<20)...)), 51784)
	isPort(t, "a long body", between(0x0800, make([]byte, 1<<20)), 55127)
	isPort(t, "a long body of another type", between(0x1234, make([]byte, 1<<20)), 55127)
}

package tunnel

import (
	"bytes"
	"math"
	"slices"
	"sync"
	"testing"

	"weft/api"
)

// roomy is a copy of a list with spare room behind it; all is that memory.
func roomy(b []byte) (list, all []byte) {
	all = append(slices.Clone(b), bytes.Repeat([]byte{0xa5}, 64)...)
	return all[:len(b)], all
}

// scribble writes over a list and its spare room.
func scribble(b []byte) {
	for i := range b[:cap(b)] {
		b[:cap(b)][i] = 0x5a
	}
}

// call is a call with a list in it and one out of it.
type call struct {
	name  string
	given []byte
	ask   func(given []byte) (list []byte, err api.Errno)
}

// checkMemory asks a call with a roomy list: it does not change it; what is written over it later, or over what the call answered, is not seen in the answer, nor in the answer to the same call again.
func checkMemory(t *testing.T, c call) {
	t.Helper()
	first, wantErr := c.ask(c.given)
	want := slices.Clone(first)
	list, all := roomy(c.given)
	before := slices.Clone(all)
	got, err := c.ask(list)
	if !bytes.Equal(all, before) {
		t.Fatalf("P7.8: %s changes what is handed in", c.name)
	}
	scribble(all)
	if err != wantErr || !bytes.Equal(got, want) {
		t.Fatalf("P7.8: %s answers what was handed in", c.name)
	}
	again, err := c.ask(c.given)
	scribble(got)
	if err != wantErr || !bytes.Equal(again, want) || !bytes.Equal(first, want) {
		t.Fatalf("P7.8: %s answers memory twice", c.name)
	}
	if wantErr != api.OK && len(want) > 0 {
		t.Fatalf("P0.2: %s answers %x beside %d", c.name, want, wantErr)
	}
}

// callsOf has the calls with these bytes as what is read, and as the body of what is written.
func callsOf(given []byte) []call {
	return []call{
		{"ParseFrame", given, func(given []byte) ([]byte, api.Errno) {
			f, err := ParseFrame(given)
			return f.Body, err
		}},
		{"BuildFrame", given, func(given []byte) ([]byte, api.Errno) {
			return BuildFrame(between(0x0800, given))
		}},
		{"ParseUDP", given, func(given []byte) ([]byte, api.Errno) {
			d, err := ParseUDP(here, there, given)
			return d.Body, err
		}},
		{"BuildUDP", given, func(given []byte) ([]byte, api.Errno) {
			return BuildUDP(here, there, api.Datagram{SrcPort: 7, Body: given}, false)
		}},
		{"BuildUDP with a sum", given, func(given []byte) ([]byte, api.Errno) {
			return BuildUDP(here, there, api.Datagram{SrcPort: 7, Body: given}, true)
		}},
		{"Flow", given, func(given []byte) ([]byte, api.Errno) {
			port := Flow(between(0x0800, given))
			return []byte{byte(port >> 8), byte(port)}, api.OK
		}},
		{"Seal", given, func(given []byte) ([]byte, api.Errno) {
			return Seal(exampleOuter(), between(0x0800, given))
		}},
		{"Open", given, func(given []byte) ([]byte, api.Errno) {
			_, f, err := Open(given)
			return f.Body, err
		}},
	}
}

func TestP7_8Memory(t *testing.T) {
	roll := dice()
	lists := [][]byte{nil, {}, {1}, exampleSealed(), exampleSealed()[20:], exampleSealed()[36:], exampleSealed()[36:50]}
	for _, n := range []int{8, 14, 65485, 65486, 65499, 65500, 65527, 65528, 65535, 65536} {
		lists = append(lists, set16(set16(set16(make([]byte, max(n, 14)), 12, 0x0800), 4, uint16(min(n, 65535))), 6, 0)[:n])
	}
	for range 2000 {
		b := someSealed(roll)
		lists = append(lists, b, b[min(len(b), 20):], b[min(len(b), 36):])
		lists = append(lists, somePacket(roll))
	}
	for _, given := range lists {
		for _, c := range callsOf(given) {
			checkMemory(t, c)
		}
	}
}

// A nil list is an empty one.
func TestP0_4NilLists(t *testing.T) {
	if none, empty := Flow(between(0x0800, nil)), Flow(between(0x0800, []byte{})); none != empty {
		t.Errorf("P0.4: Flow: %d and %d", none, empty)
	}
	for _, c := range callsOf(nil) {
		none, noneErr := c.ask(nil)
		empty, emptyErr := c.ask([]byte{})
		if noneErr != emptyErr || !bytes.Equal(none, empty) {
			t.Errorf("P0.4: %s: %x, %d and %x, %d", c.name, none, noneErr, empty, emptyErr)
		}
	}
}

// Beside an error all else is zero: hardware addresses, ports and the outer too.
func TestP0_2ZeroBesideErrors(t *testing.T) {
	roll := dice()
	for range 20000 {
		b := someSealed(roll)
		if o, f, err := Open(b); err != api.OK && (o != api.Outer{} || !sameFrame(f, api.Frame{})) {
			t.Fatalf("P0.2: Open(%x) = %+v, %s, %d", b, o, brief(f), err)
		}
		if f, err := ParseFrame(b[min(len(b), 36):]); err != api.OK && !sameFrame(f, api.Frame{}) {
			t.Fatalf("P0.2: ParseFrame of the end of %x = %s, %d", b, brief(f), err)
		}
		if d, err := ParseUDP(here, there, b[min(len(b), 20):]); err != api.OK && !sameDatagram(d, api.Datagram{}) {
			t.Fatalf("P0.2: ParseUDP of the end of %x = %v, %d", b, d, err)
		}
		if sealed, err := Seal(someOuter(roll), someFrame(roll)); err != api.OK && len(sealed) > 0 {
			t.Fatalf("P0.2: Seal = %x, %d", sealed, err)
		}
	}
}

// No arguments make a call panic.
func TestP0_1AnyArguments(t *testing.T) {
	roll := dice()
	sizes := edgeSizes()
	vnis := []int{0, 1, -1, 16777215, 16777216, math.MaxInt, math.MinInt, 1 << 32}
	for range 1500 {
		b := some(roll, sizes[roll.Intn(len(sizes))])
		src, dst := someAddr(roll), someAddr(roll)
		f := api.Frame{Dst: api.MAC(some(roll, 6)), Src: api.MAC(some(roll, 6)), Type: someType(roll), Body: b}
		checkParseFrame(t, b)
		checkBuildFrame(t, f)
		checkParseUDP(t, src, dst, b)
		checkBuildUDP(t, src, dst, api.Datagram{SrcPort: uint16(roll.Int()), DstPort: uint16(roll.Int()), Body: b}, roll.Intn(2) == 0)
		checkFlow(t, f)
		checkSeal(t, with(someOuter(roll), func(o *api.Outer) { o.VNI = vnis[roll.Intn(len(vnis))] }), f)
		checkOpen(t, b)
	}
}

// The same arguments make the same answer, whatever was asked ahead of it or is asked beside it.
func TestP0_5ArgumentsAlone(t *testing.T) {
	var group sync.WaitGroup
	for range 8 {
		group.Go(func() {
			roll := dice()
			for range 1000 {
				o, f := someOuter(roll), someFrame(roll)
				checkSeal(t, o, f)
				checkFlow(t, f)
				checkBuildUDP(t, o.Src, o.Dst, api.Datagram{SrcPort: o.SrcPort, Body: f.Body}, true)
				checkOpen(t, someSealed(roll))
			}
		})
	}
	group.Wait()
}

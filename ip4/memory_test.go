package ip4

import (
	"bytes"
	"slices"
	"sync"
	"testing"

	"weft/api"
)

// roomy is the bytes with spare room behind them that tells when it is written into.
func roomy(b []byte) (list, all []byte) {
	all = append(slices.Clone(b), fill(64, 0xa5)...)
	return all[:len(b)], all
}

// scribble writes over a list and its spare room.
func scribble(b []byte) {
	for i := range b[:cap(b)] {
		b[:cap(b)][i] = 0x5a
	}
}

// checkKept runs the call over bytes with spare room and without: neither is changed, and the answer is the same.
func checkKept(t *testing.T, name string, b []byte, call func(b []byte) [][]byte) {
	t.Helper()
	list, all := roomy(b)
	before := slices.Clone(all)
	got := call(list)
	if !bytes.Equal(all, before) {
		t.Errorf("P3.10: %s changes %x to %x", name, before, all)
	}
	want := call(slices.Clip(slices.Clone(b)))
	if !slices.EqualFunc(got, want, bytes.Equal) {
		t.Errorf("P0.5: %s hangs on a capacity: %x, %x", name, got, want)
	}
	scribble(all)
	if !slices.EqualFunc(got, want, bytes.Equal) {
		t.Errorf("P3.10: %s answers what was handed in: %x, %x", name, got, want)
	}
	again := call(slices.Clone(b))
	for i, part := range got {
		scribble(part)
		for j := range got {
			if i < j && !bytes.Equal(got[j], want[j]) {
				t.Errorf("P3.10: %s: list %d of an answer shares memory with list %d: %x", name, i, j, got[j])
			}
		}
	}
	if !slices.EqualFunc(again, want, bytes.Equal) || !slices.EqualFunc(call(slices.Clone(b)), want, bytes.Equal) {
		t.Errorf("P3.10: %s answers memory twice", name)
	}
}

func TestP3_10Memory(t *testing.T) {
	calls := map[string]func(b []byte) [][]byte{
		"Parse, options first": func(b []byte) [][]byte { p, _ := Parse(b); return [][]byte{p.Head.Opts, p.Body} },
		"Parse, body first":    func(b []byte) [][]byte { p, _ := Parse(b); return [][]byte{p.Body, p.Head.Opts} },
		"Peek, options first":  func(b []byte) [][]byte { h, body, _ := Peek(b); return [][]byte{h.Opts, body} },
		"Peek, body first":     func(b []byte) [][]byte { h, body, _ := Peek(b); return [][]byte{body, h.Opts} },
		"Age":                  func(b []byte) [][]byte { g, _ := Age(b); return [][]byte{g} },
		"Copied":               func(b []byte) [][]byte { g, _ := Copied(b); return [][]byte{g} },
		"Sum":                  func(b []byte) [][]byte { s := Sum(b, b[:len(b)/2], b); return [][]byte{{byte(s >> 8), byte(s)}} },
		"Build of a body": func(b []byte) [][]byte {
			g, _ := Build(api.Packet{Body: b})
			return [][]byte{g}
		},
		"Build of options": func(b []byte) [][]byte {
			g, _ := Build(api.Packet{Head: api.Head{Opts: b}, Body: b})
			return [][]byte{g}
		},
	}
	texts := []string{"", plainBytes, plainBytes + "ffff", optionsBytes, optionsBytes + "aa", zeroBytes, "8307040a 09090901", "01010101", "83040909", "82030000", "01020183"}
	for name, call := range calls {
		for _, text := range texts {
			checkKept(t, name, unhex(text), call)
			if b := unhex(text); len(b) > 0 {
				checkKept(t, name, b[:len(b)-1], call)
			}
		}
	}
}

func TestP3_10SumKeepsItsParts(t *testing.T) {
	one, all := roomy([]byte{1})
	parts := [][]byte{one, {2, 3}, {4}, nil}
	before, beforeAll := slices.Clone(parts), slices.Clone(all)
	if Sum(parts[:3]...) != Sum([]byte{1, 2, 3, 4}) {
		t.Errorf("P3.1: Sum(%x)", parts)
	}
	if !slices.EqualFunc(parts, before, bytes.Equal) || !bytes.Equal(all, beforeAll) {
		t.Errorf("P3.10: Sum changes its parts: %x, %x", parts, all)
	}
}

func TestP0_2ZeroBesideAnError(t *testing.T) {
	roll := dice()
	for range 20000 {
		b := spoilt(roll, modelBuild(somePacket(roll)))
		if p, err := Parse(b); err != api.OK && (!sameHead(p.Head, api.Head{}) || len(p.Body) != 0) {
			t.Errorf("P0.2: Parse(%x) = %v, %d", b, p, err)
		}
		if h, body, err := Peek(b); err != api.OK && (!sameHead(h, api.Head{}) || len(body) != 0) {
			t.Errorf("P0.2: Peek(%x) = %v, %x, %d", b, h, body, err)
		}
		if g, err := Age(b); err != api.OK && len(g) != 0 {
			t.Errorf("P0.2: Age(%x) = %x, %d", b, g, err)
		}
		if g, err := Copied(b[:min(40, len(b))/4*4]); err != api.OK && len(g) != 0 {
			t.Errorf("P0.2: Copied(%x) = %x, %d", b, g, err)
		}
	}
}

func TestP0_1AnyArguments(t *testing.T) {
	roll := dice()
	for range 50000 {
		b := some(roll, roll.Intn(90))
		if len(b) > 20 && roll.Intn(2) == 0 {
			b[0], b[2] = 0x40|b[0]&15, 0
		}
		checkParse(t, b)
		checkParse(t, resealed(b))
		checkOptions(t, b)
		p := api.Packet{Head: api.Head{MF: roll.Intn(2) == 0, Off: roll.Int() - roll.Int()}, Body: b}
		if g, err := Build(p); (err == api.OK) != modelPiece(p.Head.Off, len(b), p.Head.MF) || err != api.OK && len(g) != 0 {
			t.Errorf("P3.5: Build(%v) = %x, %d", p, g, err)
		}
	}
	for _, n := range []int{1 << 16, 1 << 21} {
		for _, v := range []byte{0, 0x45, 0xff} {
			checkParse(t, fill(n, v))
			checkOptions(t, fill(n, v))
		}
	}
}

func TestP0_5ArgumentsAlone(t *testing.T) {
	// The same calls, beside one another and behind calls that were refused.
	shared := unhex(optionsBytes)
	var group sync.WaitGroup
	for range 8 {
		group.Go(func() {
			for range 200 {
				if _, err := Parse(shared[:30]); err != api.ErrShort {
					t.Errorf("P3.3: Parse(%x): %d", shared[:30], err)
				}
				p, err := Parse(shared)
				if err != api.OK || !samePacket(p, optionsPacket()) {
					t.Errorf("P0.5: Parse(%x) = %v, %d", shared, p, err)
				}
				if b, err := Build(p); err != api.OK || !bytes.Equal(b, shared) {
					t.Errorf("P0.5: Build(%v) = %x, %d", p, b, err)
				}
				scribble(p.Body)
				scribble(p.Head.Opts)
			}
		})
	}
	group.Wait()
}

package nat

import (
	"math/rand"
	"slices"
	"testing"

	"weft/api"
)

// picked asks Pick and the model, which must answer the same.
func picked(t *testing.T, u api.Tuple, list ...api.Backend) int {
	t.Helper()
	i, err := Pick(u, list...)
	if want, wantErr := modelPick(u, list); i != want || err != wantErr {
		t.Fatalf("P23.5: Pick(%+v, %+v) = %d, %d, want %d, %d", u, list, i, err, want, wantErr)
	}
	return i
}

func weightOf(u api.Tuple, b api.Backend) uint64 {
	return weight(hashOf(u), b)
}

// someBackends is n of them, all different.
func someBackends(n int) []api.Backend {
	var list []api.Backend
	for i := range n {
		list = append(list, api.Backend{Addr: web + api.Addr(i/3*251), Port: uint16(8080 + i%3)})
	}
	return list
}

func someTuple(r *rand.Rand) api.Tuple {
	return tup(api.Addr(r.Uint32()), vip, pick(r, byte(6), 17, 1, byte(r.Int())), uint16(r.Int()), 80)
}

func TestP23_5HowMany(t *testing.T) {
	u := tup(cli, vip, 17, 4000, 80)
	for _, none := range [][]api.Backend{nil, {}, make([]api.Backend, 0, 9)} {
		if i, err := Pick(u, none...); i != 0 || err != api.ErrBackend {
			t.Errorf("P23.5: of none: %d, %d", i, err)
		}
	}
	if i, err := Pick(u); i != 0 || err != api.ErrBackend {
		t.Errorf("P23.5: of none: %d, %d", i, err)
	}
	all := someBackends(1000)
	for _, n := range []int{257, 258, 300, 1000} {
		if i, err := Pick(u, all[:n]...); i != 0 || err != api.ErrLong {
			t.Errorf("P23.5: of %d: %d, %d", n, i, err)
		}
	}
	for n := 1; n <= 256; n++ {
		if i, err := Pick(u, all[:n]...); err != api.OK || i < 0 || i >= n {
			t.Errorf("P23.5: of %d: %d, %d", n, i, err)
		}
	}
	r := dice()
	seen := [256]bool{}
	for i := range 5000 {
		u := someTuple(r)
		best, err := Pick(u, all[:256]...)
		if err != api.OK {
			t.Fatalf("P23.5: of 256: %d", err)
		}
		seen[best] = true
		if i < 200 {
			picked(t, u, all[:256]...)
		}
	}
	if slices.Contains(seen[:], false) {
		t.Error("P23.5: of 256 not all are ever picked")
	}
}

func TestP23_5One(t *testing.T) {
	r := dice()
	for range 100 {
		u := someTuple(r)
		for _, b := range []api.Backend{{}, {Addr: web, Port: 8080}, {Addr: 1<<32 - 1, Port: 65535}} {
			if i := picked(t, u, b); i != 0 {
				t.Errorf("P23.5: of one: %d", i)
			}
		}
	}
}

// Of backends that are equal the first is picked, wherever the others lie.
func TestP23_5Equal(t *testing.T) {
	r := dice()
	for range 300 {
		u, list := someTuple(r), someBackends(1+r.Intn(8))
		best := list[picked(t, u, list...)]
		for range 4 {
			list = slices.Insert(list, r.Intn(len(list)+1), best)
			if i := picked(t, u, list...); i != slices.Index(list, best) {
				t.Errorf("P23.5: %d of %+v", i, list)
			}
		}
	}
	if i := picked(t, tup(cli, vip, 17, 1, 1), make([]api.Backend, 256)...); i != 0 {
		t.Errorf("P23.5: of equal ones: %d", i)
	}
}

// The same backends in another order, one taken out, and one put in.
func TestP23_5FewMove(t *testing.T) {
	r := dice()
	moved, stayed := 0, 0
	for range 3000 {
		u, list := someTuple(r), someBackends(2+r.Intn(12))
		best := list[picked(t, u, list...)]
		r.Shuffle(len(list), func(i, k int) { list[i], list[k] = list[k], list[i] })
		if got := list[picked(t, u, list...)]; got != best {
			t.Fatalf("P23.5: in another order %+v, and was %+v", got, best)
		}
		for i, b := range list {
			fewer := slices.Delete(slices.Clone(list), i, i+1)
			if got := fewer[picked(t, u, fewer...)]; b != best && got != best {
				t.Fatalf("P23.5: without %+v it is %+v, and was %+v", b, got, best)
			}
		}
		added := api.Backend{Addr: far, Port: uint16(r.Int())}
		more := slices.Insert(slices.Clone(list), r.Intn(len(list)+1), added)
		switch got := more[picked(t, u, more...)]; got {
		case added:
			moved++
		case best:
			stayed++
		default:
			t.Fatalf("P23.5: with %+v it is %+v, and was %+v", added, got, best)
		}
	}
	if moved < 200 || stayed < 2000 {
		t.Errorf("P23.5: %d flows moved to a new backend, %d stayed", moved, stayed)
	}
}

// Each bit of the tuple and of the backend tells in the weight.
func TestP23_5EachBit(t *testing.T) {
	u, b := tup(cli, vip, 17, 4000, 80), api.Backend{Addr: web, Port: 8080}
	seen := map[uint64]bool{weightOf(u, b): true}
	tells := func(u api.Tuple, b api.Backend) {
		t.Helper()
		w := weightOf(u, b)
		if w != modelWeight(u, b) || seen[w] {
			t.Errorf("P23.5: the weight of %+v for %+v is %d, want %d", b, u, w, modelWeight(u, b))
		}
		seen[w] = true
	}
	for bit := range 32 {
		v, c := u, b
		v.Src ^= 1 << bit
		tells(v, b)
		v = u
		v.Dst ^= 1 << bit
		tells(v, b)
		c.Addr ^= 1 << bit
		tells(u, c)
	}
	for bit := range 16 {
		v, c := u, b
		v.SrcPort ^= 1 << bit
		tells(v, b)
		v = u
		v.DstPort ^= 1 << bit
		tells(v, b)
		c.Port ^= 1 << bit
		tells(u, c)
	}
	for bit := range 8 {
		v := u
		v.Proto ^= 1 << bit
		tells(v, b)
	}
}

func TestP23_5Weights(t *testing.T) {
	r := dice()
	high := 0
	for range 20000 {
		u := tup(api.Addr(r.Uint32()), api.Addr(r.Uint32()), byte(r.Int()), uint16(r.Int()), uint16(r.Int()))
		b := api.Backend{Addr: api.Addr(r.Uint32()), Port: uint16(r.Int())}
		w := weightOf(u, b)
		if w != modelWeight(u, b) {
			t.Fatalf("P23.5: the weight of %+v for %+v is %d, want %d", b, u, w, modelWeight(u, b))
		}
		if w>>63 == 1 {
			high++
		}
	}
	if high < 9000 || high > 11000 {
		t.Errorf("P23.5: %d of 20000 weights have the highest bit", high)
	}
}

// Any tuple will do, of whatever protocol; an echo's two ports need not be alike.
func TestP23_5AnyTuple(t *testing.T) {
	list := someBackends(5)
	for proto := range 256 {
		picked(t, tup(cli, vip, byte(proto), 7, 8), list...)
	}
	picked(t, api.Tuple{}, list...)
	picked(t, tup(1<<32-1, 1<<32-1, 255, 65535, 65535), list...)
}

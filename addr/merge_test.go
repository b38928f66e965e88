package addr

import (
	"math"
	"slices"
	"sync"
	"testing"

	"weft/api"
)

func checkMerge(t *testing.T, want []api.Prefix, wantErr api.Errno, ps ...api.Prefix) {
	t.Helper()
	if got, err := Merge(ps...); !slices.Equal(got, want) || err != wantErr {
		t.Fatalf("P1.8: Merge of %d, %.200v = %v, %d, want %v, %d", len(ps), ps, got, err, want, wantErr)
	}
}

func TestP1_8MergeExamples(t *testing.T) {
	checkMerge(t, nil, api.OK)
	checkMerge(t, []api.Prefix{prefix(10, 0, 0, 0, 23)}, api.OK, prefix(10, 0, 1, 0, 24), prefix(10, 0, 0, 0, 24), prefix(10, 0, 0, 128, 25))
	checkMerge(t, []api.Prefix{prefix(10, 0, 1, 0, 24), prefix(10, 0, 2, 0, 24)}, api.OK, prefix(10, 0, 1, 0, 24), prefix(10, 0, 2, 0, 24))
	checkMerge(t, []api.Prefix{prefix(10, 0, 1, 0, 24), prefix(10, 0, 2, 0, 24)}, api.OK, prefix(10, 0, 2, 0, 24), prefix(10, 0, 1, 0, 24))
	checkMerge(t, []api.Prefix{{}}, api.OK, prefix(128, 0, 0, 0, 1), prefix(0, 0, 0, 0, 1))
	checkMerge(t, []api.Prefix{{}}, api.OK, prefix(255, 255, 255, 255, 32), api.Prefix{}, prefix(0, 0, 0, 0, 32))
	// The two ends are not one behind the other.
	checkMerge(t, []api.Prefix{prefix(0, 0, 0, 0, 32), prefix(255, 255, 255, 255, 32)}, api.OK, prefix(255, 255, 255, 255, 32), prefix(0, 0, 0, 0, 32))
	// Without a sign 255.0.0.0 is above 1.0.0.0.
	checkMerge(t, []api.Prefix{prefix(1, 0, 0, 0, 8), prefix(255, 0, 0, 0, 8)}, api.OK, prefix(255, 0, 0, 0, 8), prefix(1, 0, 0, 0, 8))
	checkMerge(t, []api.Prefix{prefix(9, 255, 255, 254, 31), prefix(10, 0, 0, 0, 8)}, api.OK, prefix(10, 3, 0, 0, 16), prefix(10, 0, 0, 0, 8), prefix(9, 255, 255, 254, 31), prefix(10, 255, 255, 255, 32))
}

// merged is the model's answer for prefixes that lie in the 16 addresses from base on.
func merged(base api.Addr, ps []api.Prefix) []api.Prefix {
	wanted := make([]bool, 16)
	for _, p := range ps {
		lo, hi, _ := modelSpan(p)
		for a := lo; a <= hi; a++ {
			wanted[a-uint64(base)] = true
		}
	}
	return modelList(base, wanted)
}

func TestP1_8MergeEverySet(t *testing.T) {
	for _, base := range []api.Addr{0, top - 15, quad(10, 0, 0, 8)} {
		for set := range 1 << 12 {
			var ps []api.Prefix
			for i := range 12 {
				if set>>i&1 == 1 {
					ps = append(ps, api.Prefix{Addr: base + 15 - api.Addr(i), Len: 32})
				}
			}
			checkMerge(t, merged(base, ps), api.OK, ps...)
		}
	}
}

func TestP1_8MergeEveryTriple(t *testing.T) {
	for _, base := range []api.Addr{0, top - 15} {
		var all []api.Prefix
		for n := 28; n <= 32; n++ {
			for i := api.Addr(0); i < 16; i += 1 << (32 - n) {
				all = append(all, api.Prefix{Addr: base + i, Len: n})
			}
		}
		for _, p := range all {
			for _, q := range all {
				for _, r := range all {
					checkMerge(t, merged(base, []api.Prefix{p, q, r}), api.OK, p, q, r)
				}
			}
		}
	}
}

func TestP1_8MergeOrderAndDoubling(t *testing.T) {
	ps := []api.Prefix{prefix(10, 0, 0, 0, 24), prefix(10, 0, 0, 0, 25), prefix(10, 0, 1, 0, 25), prefix(10, 0, 1, 128, 26), prefix(10, 0, 4, 0, 22), prefix(9, 0, 0, 0, 8)}
	want := []api.Prefix{prefix(9, 0, 0, 0, 8), prefix(10, 0, 0, 0, 24), prefix(10, 0, 1, 0, 25), prefix(10, 0, 1, 128, 26), prefix(10, 0, 4, 0, 22)}
	for shift := range ps {
		turned := append(slices.Clone(ps[shift:]), ps[:shift]...)
		checkMerge(t, want, api.OK, turned...)
		slices.Reverse(turned)
		checkMerge(t, want, api.OK, turned...)
		checkMerge(t, want, api.OK, append(turned, turned...)...)
	}
}

func TestP1_8MergeRefuses(t *testing.T) {
	good := prefix(10, 0, 0, 0, 24)
	bits := prefix(10, 0, 0, 1, 24)
	for _, n := range []int{-1, 33, math.MinInt, math.MaxInt} {
		long := api.Prefix{Addr: 1, Len: n}
		checkMerge(t, nil, api.ErrPrefix, long)
		checkMerge(t, nil, api.ErrPrefix, good, long, bits)
		checkMerge(t, nil, api.ErrHostBits, good, bits, long)
	}
	checkMerge(t, nil, api.ErrHostBits, bits)
	checkMerge(t, nil, api.ErrHostBits, good, prefix(0, 0, 0, 1, 0))
}

func TestP1_8MergeLimit(t *testing.T) {
	// Every second address: no two of them make one prefix.
	var sparse []api.Prefix
	for i := range api.Addr(4097) {
		sparse = append(sparse, api.Prefix{Addr: quad(10, 0, 0, 0) + 2*i, Len: 32})
	}
	checkMerge(t, sparse[:4096], api.OK, sparse[:4096]...)
	checkMerge(t, nil, api.ErrLong, sparse...)
	// All of a /20, and one more that lies in it.
	var dense []api.Prefix
	for i := range api.Addr(4096) {
		dense = append(dense, api.Prefix{Addr: quad(10, 0, 16, 0) + (i*2731)%4096, Len: 32})
	}
	checkMerge(t, []api.Prefix{prefix(10, 0, 16, 0, 20)}, api.OK, dense...)
	checkMerge(t, nil, api.ErrLong, append(dense, dense[0])...)
	// Too many goes ahead of not valid.
	bad := make([]api.Prefix, 4097)
	bad[0].Len = -1
	checkMerge(t, nil, api.ErrLong, bad...)
	checkMerge(t, nil, api.ErrPrefix, bad[:4096]...)
	checkMerge(t, nil, api.ErrLong, make([]api.Prefix, 1<<20)...)
}

func TestP0_3MergeLeavesItsArguments(t *testing.T) {
	room := []api.Prefix{prefix(10, 0, 1, 0, 24), prefix(10, 0, 0, 0, 24), prefix(10, 0, 0, 128, 25), prefix(1, 0, 0, 0, 8), prefix(2, 0, 0, 0, 8)}
	before := slices.Clone(room)
	first, _ := Merge(room[:3]...)
	if !slices.Equal(room, before) {
		t.Fatalf("P0.3: Merge changed its list or its spare room: %v", room)
	}
	second, _ := Merge(room[:3]...)
	for i := range room {
		room[i] = prefix(9, 9, 9, 9, 32)
	}
	scribble(first)
	if !slices.Equal(second, []api.Prefix{prefix(10, 0, 0, 0, 23)}) {
		t.Errorf("P0.3: an answer of Merge shares memory: %v", second)
	}
	// One valid prefix alone is answered as it came, and is new memory all the same.
	single := []api.Prefix{prefix(10, 0, 0, 0, 8)}
	answer, _ := Merge(single...)
	scribble(answer)
	if single[0] != prefix(10, 0, 0, 0, 8) {
		t.Errorf("P0.3: Merge answered its argument's own memory")
	}
}

func TestP0_3CoverIsNewMemory(t *testing.T) {
	first := Cover(quad(10, 0, 0, 1), quad(10, 0, 0, 6))
	second := Cover(quad(10, 0, 0, 1), quad(10, 0, 0, 6))
	want := slices.Clone(second)
	scribble(first)
	if third := Cover(quad(10, 0, 0, 1), quad(10, 0, 0, 6)); !slices.Equal(second, want) || !slices.Equal(third, want) {
		t.Errorf("P0.3: answers of Cover share memory: %v, %v", second, third)
	}
}

// scribble writes all over a list and its spare room.
func scribble(list []api.Prefix) {
	for i := range list[:cap(list)] {
		list[:cap(list)][i] = prefix(9, 9, 9, 9, 32)
	}
}

// answers is one of each call's answers.
type answers struct {
	parsed   api.Addr
	prefix   api.Prefix
	mac      api.MAC
	texts    [3]string
	span     [2]api.Addr
	valid    bool
	contains bool
	class    int
	errs     [5]api.Errno
}

func askAll(a api.Addr, n int) (answers, []api.Prefix, []api.Prefix) {
	var x answers
	p := api.Prefix{Addr: a, Len: n}
	x.texts[0] = Format(a)
	x.parsed, x.errs[0] = Parse(x.texts[0])
	x.texts[1], x.errs[1] = FormatPrefix(p)
	x.prefix, x.errs[2] = ParsePrefix(x.texts[0] + "/24")
	x.texts[2] = FormatMAC(api.MAC{byte(a), byte(a >> 8), byte(n)})
	x.mac, x.errs[3] = ParseMAC(x.texts[2])
	x.span[0], x.span[1], x.errs[4] = Span(p)
	x.valid, x.contains, x.class = Valid(p), Contains(p, a+1), Class(a)
	list, _ := Merge(p, p, api.Prefix{Addr: 1 << 31, Len: 1})
	return x, Cover(a/2, a), list
}

// TestP1_10ArgumentsAlone asks the same again, behind other calls and beside them.
func TestP1_10ArgumentsAlone(t *testing.T) {
	type told struct {
		x            answers
		cover, merge []api.Prefix
	}
	var asked []told
	for i := range 200 {
		x, cover, merge := askAll(api.Addr(i)*2654435761, i%34-1)
		asked = append(asked, told{x, cover, merge})
	}
	var all sync.WaitGroup
	for range 4 {
		all.Go(func() {
			for i := len(asked) - 1; i >= 0; i-- {
				x, cover, merge := askAll(api.Addr(i)*2654435761, i%34-1)
				if x != asked[i].x || !slices.Equal(cover, asked[i].cover) || !slices.Equal(merge, asked[i].merge) {
					t.Errorf("P1.10: number %d is answered otherwise the second time", i)
				}
			}
		})
	}
	all.Wait()
}

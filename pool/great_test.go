package pool

import (
	"math"
	"runtime"
	"slices"
	"testing"
	"time"

	"weft/api"
)

func one(a api.Addr) api.Prefix {
	return api.Prefix{Addr: a, Len: 32}
}

// cheap runs the calls, and fails if they took long or much memory: a row of 2^32 that is gone through or listed would.
func cheap(t *testing.T, bytes uint64, calls func()) {
	t.Helper()
	var before, after runtime.MemStats
	runtime.ReadMemStats(&before)
	began := time.Now()
	calls()
	spent := time.Since(began)
	runtime.ReadMemStats(&after)
	if spent > 5*time.Second {
		t.Errorf("the calls took %v", spent)
	}
	if n := after.TotalAlloc - before.TotalAlloc; n > bytes {
		t.Errorf("the calls took %d bytes", n)
	}
}

func rooms(t *testing.T, p *Pool, want int) {
	t.Helper()
	if n := p.Room(); n != want {
		t.Fatalf("Room() = %d, want %d", n, want)
	}
}

func TestP10_7AllAddresses(t *testing.T) {
	cheap(t, 1<<20, func() {
		p, e := New(api.Prefix{}, 32, 0, math.MaxUint32)
		if e != api.OK {
			t.Fatal(e)
		}
		rooms(t, p, 1<<32)
		if s, e := p.Take(); s != one(0) || e != api.OK {
			t.Fatalf("Take() = %v, %d", s, e)
		}
		rooms(t, p, 1<<32-1)
		for _, a := range []api.Addr{math.MaxUint32, 1 << 31, 1<<31 - 1, 1, 3} {
			if e := p.Claim(one(a)); e != api.OK {
				t.Fatalf("Claim(%d) = %d", a, e)
			}
		}
		rooms(t, p, 1<<32-6)
		if l := p.Taken(); !slices.Equal(l, []api.Prefix{one(0), one(1), one(3), one(1<<31 - 1), one(1 << 31), one(math.MaxUint32)}) {
			t.Fatalf("Taken() = %v", l)
		}
		for _, want := range []api.Addr{2, 4, 5} {
			if s, e := p.Take(); s != one(want) || e != api.OK {
				t.Fatalf("Take() = %v, %d, want %d", s, e, want)
			}
		}
		for _, a := range []api.Addr{0, math.MaxUint32, 4} {
			if e := p.Free(one(a)); e != api.OK {
				t.Fatalf("Free(%d) = %d", a, e)
			}
			if e := p.Free(one(a)); e != api.ErrNone {
				t.Fatalf("a second Free(%d) = %d", a, e)
			}
		}
		rooms(t, p, 1<<32-6)
	})
}

// The greatest number of kept ones, spread over all addresses.
func TestP10_7MostKept(t *testing.T) {
	var kept []api.Prefix
	for i := range 1024 {
		kept = append(kept, one(api.Addr(i)<<22))
	}
	cheap(t, 1<<20, func() {
		p, e := New(api.Prefix{}, 32, 0, math.MaxUint32, kept...)
		if e != api.OK {
			t.Fatal(e)
		}
		rooms(t, p, 1<<32-1024)
		for i := range 1000 {
			if s, e := p.Take(); s != one(api.Addr(i+1)) || e != api.OK {
				t.Fatalf("Take() = %v, %d, want %d", s, e, i+1)
			}
		}
		for _, s := range kept {
			if e := p.Claim(s); e != api.OK {
				t.Fatalf("Claim(%v) = %d", s, e)
			}
		}
		rooms(t, p, 1<<32-2024)
		if n := len(p.Taken()); n != 2024 {
			t.Fatalf("%d taken", n)
		}
	})
}

// Each second subnet of a stretch is claimed, from the upper end on; Take fills the gaps from the lower end on, then goes on behind them.
func TestP10_7ManyRuns(t *testing.T) {
	const n = 5000
	cheap(t, 64<<20, func() {
		p, e := New(api.Prefix{}, 32, 1<<20, math.MaxUint32)
		if e != api.OK {
			t.Fatal(e)
		}
		for i := n - 1; i >= 0; i-- {
			if e := p.Claim(one(1<<20 + api.Addr(2*i+1))); e != api.OK {
				t.Fatalf("Claim %d = %d", i, e)
			}
		}
		if len(p.taken) != n {
			t.Fatalf("%d runs", len(p.taken))
		}
		rooms(t, p, 1<<32-1<<20-n)
		for i := range n {
			if s, e := p.Take(); s != one(1<<20+api.Addr(2*i)) || e != api.OK {
				t.Fatalf("Take() = %v, %d", s, e)
			}
		}
		if s, e := p.Take(); s != one(1<<20+2*n) || e != api.OK {
			t.Fatalf("Take() = %v, %d", s, e)
		}
		if len(p.taken) != 1 {
			t.Fatalf("%d runs", len(p.taken))
		}
	})
}

package ipam

import (
	"math"
	"testing"

	"weft/api"
)

func TestP15_1NoSubnet(t *testing.T) {
	list := []api.Prefix{
		{}, {Len: -1}, {Len: math.MinInt}, {Len: 31}, {Len: 32}, {Len: 33}, {Len: 64}, {Len: math.MaxInt}, {Len: 1 << 32}, {Len: 1<<32 + 24},
		{Addr: math.MaxUint32}, {Addr: math.MaxUint32, Len: 32}, {Addr: math.MaxUint32 - 1, Len: 31},
		sub(10, 5, 1, 0, 31), sub(10, 5, 1, 0, 0), sub(10, 5, 1, 4, 24), sub(10, 5, 1, 0, 32), sub(10, 5, 1, 0, -24), sub(10, 5, 1, 0, 33),
		sub(10, 5, 1, 1, 30), sub(10, 5, 1, 2, 30), sub(10, 5, 1, 3, 30), sub(10, 5, 1, 4, 29), sub(64, 0, 0, 0, 1), sub(128, 0, 0, 1, 1), sub(0, 0, 0, 1, 1),
	}
	for _, p := range list {
		if m, err := New(p); m != nil || err != api.ErrSub {
			t.Errorf("P15.1: New(%v) = %v, %d", p, m, err)
		}
	}
}

// Each length, at the beginning, in the midst and at the end of all addresses, and with a bit behind the length.
func TestP15_1EveryLength(t *testing.T) {
	for n := -2; n <= 40; n++ {
		for _, a := range []api.Addr{0, 10<<24 | 5<<16 | 1<<8 | 4, math.MaxUint32} {
			p := api.Prefix{Addr: a, Len: n}
			if n >= 0 && n <= 32 {
				p.Addr &^= 1<<(32-n) - 1
			}
			if n < 1 || n > 30 {
				if m, err := New(p); m != nil || err != api.ErrSub {
					t.Errorf("P15.1: New(%v) = %v, %d", p, m, err)
				}
				continue
			}
			begun(t, p).check()
			for bit := range 32 - n {
				q := api.Prefix{Addr: p.Addr | 1<<bit, Len: n}
				if m, err := New(q); m != nil || err != api.ErrSub {
					t.Errorf("P15.1: New(%v) = %v, %d", q, m, err)
				}
			}
		}
	}
}

func TestP15_1NoPodAtFirst(t *testing.T) {
	b := begun(t, sub(10, 5, 1, 0, 29))
	if list := b.p.List(); len(list) != 0 {
		t.Errorf("P15.1: List = %v", list)
	}
	for d := range 8 {
		if name, err := b.p.Owner(quad(10, 5, 1, d)); name != "" || err != api.ErrNone {
			t.Errorf("P15.1: Owner(.%d) = %q, %d", d, name, err)
		}
	}
	for _, name := range []string{"", "a", "p0"} {
		if a, err := b.p.Find(name); a != 0 || err != api.ErrNone {
			t.Errorf("P15.1: Find(%q) = %x, %d", name, a, err)
		}
	}
}

func TestP15_7Gateway(t *testing.T) {
	cases := []struct {
		p    api.Prefix
		want api.Addr
	}{
		{sub(10, 5, 1, 0, 24), quad(10, 5, 1, 1)},
		{sub(10, 5, 1, 4, 30), quad(10, 5, 1, 5)},
		{sub(0, 0, 0, 0, 1), 1},
		{sub(0, 0, 0, 0, 30), 1},
		{sub(128, 0, 0, 0, 1), quad(128, 0, 0, 1)},
		{sub(255, 255, 255, 252, 30), quad(255, 255, 255, 253)},
		{sub(10, 0, 0, 0, 8), quad(10, 0, 0, 1)},
	}
	for _, c := range cases {
		b := begun(t, c.p)
		for range 3 { // with no pod, and behind an Add and a Del
			if got := b.p.Gateway(); got != c.want {
				t.Errorf("P15.7: Gateway of %v = %x, want %x", c.p, got, c.want)
			}
			if _, err := b.add("a"); err == api.ErrDup {
				b.dels("a")
			}
		}
	}
}

package ipam

import (
	"math"
	"slices"
	"strconv"
	"strings"
	"testing"

	"weft/api"
)

func TestP15_3Del(t *testing.T) {
	b := begun(t, sub(10, 5, 1, 0, 24)).filled(4)
	for _, name := range []string{"p4", "p", "p00", "p0-", "P0", "", "-", "\x00", "\xff", strings.Repeat("p", 64), strings.Repeat("p", 1<<16)} {
		if a, err := b.del(name); a != 0 || err != api.ErrNone {
			t.Errorf("P15.3: Del(%q) = %x, %d", name, a, err)
		}
	}
	for i, name := range []string{"p2", "p0", "p3", "p1"} {
		want := quad(10, 5, 1, 2+[]int{2, 0, 3, 1}[i])
		if a, err := b.del(name); a != want || err != api.OK {
			t.Errorf("P15.3: Del(%q) = %x, %d", name, a, err)
		}
		b.check()
		if a, err := b.del(name); a != 0 || err != api.ErrNone {
			t.Errorf("P15.3: Del(%q) again = %x, %d", name, a, err)
		}
		if a, err := b.p.Find(name); a != 0 || err != api.ErrNone {
			t.Errorf("P15.4: Find(%q) = %x, %d", name, a, err)
		}
		if n, err := b.p.Owner(want); n != "" || err != api.ErrNone {
			t.Errorf("P15.5: Owner(%x) = %q, %d", want, n, err)
		}
		if len(b.list()) != 3-i {
			t.Errorf("P15.6: %v", b.list())
		}
	}
}

// A Del makes room, in a subnet that is full and behind 1024 pods.
func TestP15_3MakesRoom(t *testing.T) {
	b := begun(t, sub(10, 5, 1, 0, 29)).filled(5)
	for _, name := range names(5) {
		had, _ := b.find(name)
		b.full().dels(name).next("x", had).full().dels("x").next(name, had)
	}
	c := begun(t, sub(10, 5, 0, 0, 16)).filled(1024).full().dels(names(1024)...)
	if list := c.list(); len(list) != 0 {
		t.Errorf("P15.3: %d pods are left", len(list))
	}
	for i := range 1024 {
		c.next("q"+strconv.Itoa(i), quad(10, 5, 0, 0)+1026+api.Addr(i))
	}
	c.full().check()
}

func TestP15_4Find(t *testing.T) {
	b := begun(t, sub(10, 5, 1, 0, 24)).adds([]string{"web", "cli", "db-1"}, quad(10, 5, 1, 2), quad(10, 5, 1, 3), quad(10, 5, 1, 4))
	cases := []struct {
		name string
		want api.Addr
	}{{"web", quad(10, 5, 1, 2)}, {"cli", quad(10, 5, 1, 3)}, {"db-1", quad(10, 5, 1, 4)}}
	for range 2 { // asking changes nothing
		for _, c := range cases {
			if a, err := b.p.Find(c.name); a != c.want || err != api.OK {
				t.Errorf("P15.4: Find(%q) = %x, %d", c.name, a, err)
			}
		}
		for _, name := range []string{"", "we", "webb", "Web", "db", "db-", "-", "\xff", "cli\x00", strings.Repeat("w", 1000)} {
			if a, err := b.find(name); a != 0 || err != api.ErrNone {
				t.Errorf("P15.4: Find(%q) = %x, %d", name, a, err)
			}
		}
	}
	b.dels("cli").next("cli", quad(10, 5, 1, 5))
	if a, err := b.p.Find("cli"); a != quad(10, 5, 1, 5) || err != api.OK {
		t.Errorf("P15.4: Find(cli) = %x, %d", a, err)
	}
	b.check()
}

func TestP15_5Owner(t *testing.T) {
	b := begun(t, sub(10, 5, 1, 8, 29)).adds([]string{"a", "b", "c"}, quad(10, 5, 1, 10), quad(10, 5, 1, 11), quad(10, 5, 1, 12)).dels("b")
	cases := []struct {
		a    api.Addr
		name string
		want api.Errno
	}{
		{quad(10, 5, 1, 6), "", api.ErrSub}, {quad(10, 5, 1, 7), "", api.ErrSub},
		{quad(10, 5, 1, 8), "", api.ErrNone}, {quad(10, 5, 1, 9), "", api.ErrNone},
		{quad(10, 5, 1, 10), "a", api.OK}, {quad(10, 5, 1, 11), "", api.ErrNone}, {quad(10, 5, 1, 12), "c", api.OK},
		{quad(10, 5, 1, 13), "", api.ErrNone}, {quad(10, 5, 1, 14), "", api.ErrNone}, {quad(10, 5, 1, 15), "", api.ErrNone},
		{quad(10, 5, 1, 16), "", api.ErrSub}, {quad(10, 5, 1, 17), "", api.ErrSub},
		{quad(10, 5, 2, 10), "", api.ErrSub}, {quad(10, 4, 1, 10), "", api.ErrSub}, {0, "", api.ErrSub}, {math.MaxUint32, "", api.ErrSub},
	}
	for range 2 {
		for _, c := range cases {
			if name, err := b.p.Owner(c.a); name != c.name || err != c.want {
				t.Errorf("P15.5: Owner(%x) = %q, %d, want %q, %d", c.a, name, err, c.name, c.want)
			}
		}
	}
	b.check()
}

// The ends of subnets of each length, at both ends of all addresses.
func TestP15_5Ends(t *testing.T) {
	for n := 1; n <= 30; n++ {
		for _, a := range []api.Addr{0, 10<<24 | 5<<16 | 1<<8 | 4, math.MaxUint32} {
			size := api.Addr(1) << (32 - n)
			p := api.Prefix{Addr: a &^ (size - 1), Len: n}
			b := begun(t, p).next("a", p.Addr+2)
			for _, off := range []api.Addr{0, 1, size - 1} {
				if name, err := b.p.Owner(p.Addr + off); name != "" || err != api.ErrNone {
					t.Errorf("P15.5: Owner(%x) of %v = %q, %d", p.Addr+off, p, name, err)
				}
			}
			for _, out := range []api.Addr{p.Addr - 1, p.Addr + size} {
				if name, err := b.p.Owner(out); name != "" || err != api.ErrSub {
					t.Errorf("P15.5: Owner(%x) of %v = %q, %d", out, p, name, err)
				}
			}
			b.check()
		}
	}
}

func TestP15_6List(t *testing.T) {
	p := sub(10, 5, 1, 0, 28)
	b := begun(t, p)
	is := func(want ...api.Pod) {
		t.Helper()
		if got := b.p.List(); !slices.Equal(got, want) {
			t.Errorf("P15.6: List = %v, want %v", got, want)
		}
		b.check()
	}
	is()
	b.next("z", p.Addr+2)
	is(api.Pod{Name: "z", Addr: p.Addr + 2})
	b.next("a", p.Addr+3).next("m", p.Addr+4)
	is(api.Pod{Name: "z", Addr: p.Addr + 2}, api.Pod{Name: "a", Addr: p.Addr + 3}, api.Pod{Name: "m", Addr: p.Addr + 4})
	b.dels("a")
	is(api.Pod{Name: "z", Addr: p.Addr + 2}, api.Pod{Name: "m", Addr: p.Addr + 4})
	for range 10 { // to the last address for pods, and round to the one that is free
		b.dels("m")
		b.add("m")
	}
	b.next("n", p.Addr+3)
	is(api.Pod{Name: "z", Addr: p.Addr + 2}, api.Pod{Name: "n", Addr: p.Addr + 3}, api.Pod{Name: "m", Addr: p.Addr + 14})
	b.dels("z", "n", "m")
	is()
}

// Many pods: rising by address, with addresses above and below 2^31, also where Add has come round.
func TestP15_6Rising(t *testing.T) {
	for _, p := range []api.Prefix{sub(10, 5, 8, 0, 21), sub(127, 255, 248, 0, 21), sub(128, 0, 0, 0, 21), sub(255, 255, 248, 0, 21)} {
		r := dice()
		b := begun(t, p).filled(1024)
		for i := range 3000 {
			b.del(names(1024)[r.Intn(1024)])
			b.add(names(1024)[r.Intn(1024)])
			if i%500 == 0 {
				b.check()
			}
		}
		list := b.list()
		for i := range list {
			if i > 0 && list[i].Addr <= list[i-1].Addr {
				t.Fatalf("P15.6: %v behind %v", list[i], list[i-1])
			}
		}
		again := b.p.List()
		if !slices.Equal(list, again) {
			t.Errorf("P0.5: another list")
		}
	}
}

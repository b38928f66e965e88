package ipam

import (
	"math"
	"slices"
	"strings"
	"testing"

	"weft/api"
)

// Of each pair of errors at once the first that is named.
func TestP15_2FirstError(t *testing.T) {
	small := begun(t, sub(10, 5, 1, 4, 30)).next("a", quad(10, 5, 1, 6))
	great := begun(t, sub(10, 5, 0, 0, 16)).filled(1024)
	cases := []struct {
		b    both
		name string
		want api.Errno
	}{
		{small, "-a", api.ErrName}, {small, "", api.ErrName}, {small, "A", api.ErrName}, {small, strings.Repeat("a", 64), api.ErrName},
		{small, "a", api.ErrDup}, {small, "b", api.ErrFull},
		{great, "P0", api.ErrName}, {great, "p0-", api.ErrName}, {great, "p0", api.ErrDup}, {great, "p1023", api.ErrDup}, {great, "p1024", api.ErrFull},
	}
	for _, c := range cases {
		if a, err := c.b.add(c.name); a != 0 || err != c.want {
			t.Errorf("P15.2: Add(%q) = %x, %d, want %d", c.name, a, err, c.want)
		}
		c.b.check()
	}
}

func TestP15_2Dup(t *testing.T) {
	b := begun(t, sub(10, 5, 1, 0, 24)).filled(3)
	for _, name := range []string{"p0", "p1", "p2", "p2"} {
		if a, err := b.add(name); a != 0 || err != api.ErrDup {
			t.Errorf("P15.2: Add(%q) = %x, %d", name, a, err)
		}
	}
	b.dels("p1").next("p1", quad(10, 5, 1, 5)).check()
	if _, err := b.add("p1"); err != api.ErrDup {
		t.Errorf("P15.2: Add(p1) = %d", err)
	}
}

func TestP15_2TheFirst(t *testing.T) {
	for _, p := range []api.Prefix{{Len: 1}, {Len: 30}, sub(128, 0, 0, 0, 1), sub(10, 5, 1, 0, 24), sub(10, 5, 1, 4, 30), sub(255, 255, 255, 252, 30), sub(255, 255, 255, 0, 24), sub(255, 0, 0, 0, 8)} {
		begun(t, p).next("a", p.Addr+2).check()
	}
}

// Subnets filled to the last address, and one more.
func TestP15_2Filled(t *testing.T) {
	cases := []struct {
		p    api.Prefix
		size int
	}{
		{sub(10, 5, 1, 4, 30), 1}, {sub(0, 0, 0, 0, 30), 1}, {sub(255, 255, 255, 252, 30), 1},
		{sub(10, 5, 1, 8, 29), 5}, {sub(255, 255, 255, 248, 29), 5}, {sub(10, 5, 1, 16, 28), 13},
		{sub(10, 5, 1, 0, 24), 253}, {sub(255, 255, 255, 0, 24), 253}, {sub(0, 0, 0, 0, 24), 253},
		{sub(10, 5, 2, 0, 23), 509}, {sub(10, 5, 4, 0, 22), 1021},
	}
	for _, c := range cases {
		b := begun(t, c.p).filled(c.size).full().full().check()
		last := names(c.size)[c.size-1]
		b.dels(last).next("new", c.p.Addr+1+api.Addr(c.size)).full().check()
		if len(b.list()) != c.size {
			t.Errorf("P15.2: %v has %d pods", c.p, len(b.list()))
		}
	}
}

// At most 1024 pods, where there are more addresses.
func TestP15_2MostPods(t *testing.T) {
	for _, p := range []api.Prefix{sub(10, 5, 8, 0, 21), sub(10, 5, 0, 0, 16), sub(10, 0, 0, 0, 8), sub(0, 0, 0, 0, 1), sub(128, 0, 0, 0, 1), sub(255, 255, 248, 0, 21)} {
		b := begun(t, p).filled(1023).check()
		b.next("p1023", p.Addr+1025).check().full().full().check()
		b.dels("p7").next("x", p.Addr+1026).full()
		b.dels("p9", "x").next("y", p.Addr+1027).next("z", p.Addr+1028).full().check()
	}
}

// A great subnet is gone through to its end ahead of its beginning.
func TestP15_2RoundAGreatOne(t *testing.T) {
	p := sub(255, 255, 248, 0, 21) // 2045 addresses for pods
	b := begun(t, p).filled(1000)
	for i := range 1045 {
		b.next("x", p.Addr+1002+api.Addr(i)).dels("x")
	}
	b.check().next("x", p.Addr+1002).check()
	for i := range 1044 {
		b.dels("x").next("x", p.Addr+1003+api.Addr(i))
	}
	b.dels("p0", "p999").next("y", p.Addr+2).next("z", p.Addr+1001).check()
}

// The search goes past as many pods as there may be, and finds the one behind.
func TestP15_2PastAllPods(t *testing.T) {
	p := sub(10, 5, 4, 0, 22) // 1021 addresses for pods
	b := begun(t, p).filled(1021)
	for _, name := range []string{"p1020", "p0", "p1", "p1019", "p510", "p510"} {
		had, _ := b.find(name)
		b.dels(name).next(name, had).full()
	}
	q := sub(10, 5, 8, 0, 21) // 2045
	c := begun(t, q).filled(1023)
	for i := range 1022 {
		c.next("x", q.Addr+1025+api.Addr(i)).dels("x")
	}
	c.next("x", q.Addr+1025).full().check() // behind all 1023 others
}

// Behind the last address for pods Add comes round to base + 2.
func TestP15_2ComesRound(t *testing.T) {
	for _, p := range []api.Prefix{sub(10, 5, 1, 0, 29), sub(0, 0, 0, 0, 29), sub(255, 255, 255, 248, 29)} {
		b := begun(t, p).filled(5).dels("p0", "p1")
		b.next("a", p.Addr+2).next("b", p.Addr+3).full().check()
		b.dels("b", "p4", "a").next("c", p.Addr+6).next("d", p.Addr+2).next("e", p.Addr+3).full().check()
	}
}

// The only free address is the one that was given last, the one behind it, the one ahead of it, and every other.
func TestP15_2TheOnlyFree(t *testing.T) {
	p := sub(10, 5, 1, 0, 29)
	for given := range 5 {
		for free := range 5 {
			b := begun(t, p).filled(5)
			for i := range given + 1 { // till the one at this place was given last
				name := names(5)[i]
				b.dels(name).next(name, p.Addr+2+api.Addr(i))
			}
			b.full().dels(names(5)[free]).next("x", p.Addr+2+api.Addr(free)).full().check()
		}
	}
}

// Two free ones: the first of them behind the one that was given last.
func TestP15_2TheFirstBehind(t *testing.T) {
	p := sub(10, 5, 1, 0, 29)
	for given := range 5 {
		for one := range 5 {
			for two := range 5 {
				if one == two {
					continue
				}
				b := begun(t, p).filled(5)
				for i := range given + 1 {
					name := names(5)[i]
					b.dels(name).next(name, p.Addr+2+api.Addr(i))
				}
				want := min((one+4-given)%5, (two+4-given)%5) // how far behind the one behind it
				b.dels(names(5)[one], names(5)[two]).next("x", p.Addr+2+api.Addr((given+1+want)%5))
				b.add("y")
				b.full().check()
			}
		}
	}
}

// A Del does not change which one was given last.
func TestP15_2BehindADel(t *testing.T) {
	p := sub(10, 5, 1, 0, 24)
	b := begun(t, p).filled(3).dels("p2").next("a", p.Addr+5) // of the one given last
	b.dels("p0").next("b", p.Addr+6)                          // of another one
	b.dels("p1", "a", "b").check().next("c", p.Addr+7)        // of all
	b.dels("c").next("c", p.Addr+8).check()
	c := begun(t, p)
	for i := range 253 * 3 { // each address, three times round
		c.next("x", p.Addr+2+api.Addr(i%253)).dels("x")
	}
	c.check()
}

// A refused Add, and other calls that change nothing, between others.
func TestP15_2RefusedChangesNothing(t *testing.T) {
	p := sub(10, 5, 1, 0, 29)
	b := begun(t, p)
	idle := func() {
		t.Helper()
		for _, name := range []string{"", "-", "A", "a-", strings.Repeat("a", 64)} {
			if a, err := b.add(name); a != 0 || err != api.ErrName {
				t.Errorf("P15.2: Add(%q) = %x, %d", name, a, err)
			}
		}
		for _, pod := range b.list() {
			if a, err := b.add(pod.Name); a != 0 || err != api.ErrDup {
				t.Errorf("P15.2: Add(%q) = %x, %d", pod.Name, a, err)
			}
		}
		b.del("nobody")
		b.del("")
		b.check()
	}
	idle()
	for i, name := range names(5) {
		b.next(name, p.Addr+2+api.Addr(i))
		idle()
	}
	b.full()
	idle()
	b.dels("p3")
	idle()
	b.dels("p1")
	idle()
	b.next("x", p.Addr+3)
	idle()
	b.next("y", p.Addr+5).full()
	idle()
}

// No address is given to two, and none outside.
func TestP15_2NoAddressToTwo(t *testing.T) {
	r := dice()
	p := sub(10, 5, 1, 0, 28)
	m, _ := New(p)
	var free []api.Addr
	for a := p.Addr + 2; a < p.Addr+15; a++ {
		free = append(free, a)
	}
	had := map[string]api.Addr{}
	for i := range 4000 {
		name := names(20)[r.Intn(20)]
		if a, there := had[name]; there {
			if got, err := m.Del(name); got != a || err != api.OK {
				t.Fatalf("P15.3: Del(%s) = %x, %d", name, got, err)
			}
			free = append(free, a)
			delete(had, name)
			continue
		}
		a, err := m.Add(name)
		if len(free) == 0 {
			if err != api.ErrFull {
				t.Fatalf("P15.2: step %d: %x, %d", i, a, err)
			}
			continue
		}
		at := slices.Index(free, a)
		if err != api.OK || at < 0 {
			t.Fatalf("P15.2: step %d: Add(%s) = %x, %d, which is not free", i, name, a, err)
		}
		free = slices.Delete(free, at, at+1)
		had[name] = a
	}
}

// At the end of all addresses no sum leaves its type.
func TestP15_2TheLastSubnet(t *testing.T) {
	b := begun(t, sub(255, 255, 255, 248, 29)).filled(5)
	for d := range 5 {
		if name, err := b.p.Owner(math.MaxUint32 - api.Addr(1+d)); name != names(5)[4-d] || err != api.OK {
			t.Errorf("P15.5: Owner of the one %d below the last: %q, %d", d+1, name, err)
		}
	}
	b.full().check()
}

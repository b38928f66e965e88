package path

import (
	"math"
	"slices"
	"strings"
	"testing"

	"weft/api"
)

func TestP17_2Bind(t *testing.T) {
	b := begun(t, 1500)
	for _, name := range []string{"a", "", "a", "\x00\xff", strings.Repeat("x", 100000)} {
		b.binds(name, api.Addr(len(b.m.pods)))
	}
	for _, a := range []api.Addr{quad(127, 0, 0, 1), math.MaxUint32, 1 << 31, 1<<31 - 1, at(1, 0), at(1, 1), at(1, 255)} {
		b.binds("any", a)
	}
	b.bound()
}

// What is bound stays as it is bound.
func TestP17_2Dup(t *testing.T) {
	b := host(t, 1, 1500)
	for _, name := range []string{"cli", "other", ""} {
		if err := b.bind(name, cli); err != api.ErrDup {
			t.Errorf("P17.2: Bind(%q) again: %d", name, err)
		}
	}
	if got := b.bound(); !slices.Equal(got, []api.Pod{{Name: "cli", Addr: cli}}) {
		t.Errorf("P17.2: Bound = %v", got)
	}
	b.sends(udp(web, cli, 9)).is(api.VDelivered).gives("cli", udp(web, cli, 8))
}

// Of the 1024th pod and the 1025th.
func TestP17_2Full(t *testing.T) {
	b := begun(t, 1500)
	for i := range 1023 {
		b.binds("p", api.Addr(i)<<22)
	}
	b.binds("p", 1<<32-1)
	if err := b.bind("p", 1); err != api.ErrFull {
		t.Errorf("P17.2: the 1025th: %d", err)
	}
	if err := b.bind("q", 1<<32-1); err != api.ErrDup {
		t.Errorf("P17.2: one that is there, where there is no room: %d", err)
	}
	if got := b.bound(); len(got) != 1024 {
		t.Errorf("P17.2: %d are bound", len(got))
	}
	if err := b.unbind(0); err != api.OK {
		t.Errorf("P17.2: Unbind: %d", err)
	}
	b.binds("q", 1)
	if err := b.bind("q", 0); err != api.ErrFull {
		t.Errorf("P17.2: the 1025th: %d", err)
	}
	b.bound()
}

// One name at several addresses: each has its own packets.
func TestP17_2OneName(t *testing.T) {
	b := host(t, 1, 1500).binds("cli", at(1, 4), at(1, 3))
	want := []api.Pod{{Name: "cli", Addr: cli}, {Name: "cli", Addr: at(1, 3)}, {Name: "cli", Addr: at(1, 4)}}
	if got := b.bound(); !slices.Equal(got, want) {
		t.Errorf("P17.2: Bound = %v", got)
	}
	for _, pod := range want {
		b.sends(udp(web, pod.Addr, 9)).is(api.VDelivered).gives("cli", udp(web, pod.Addr, 8))
	}
	b.unbind(at(1, 3))
	b.sends(udp(at(1, 4), at(1, 3), 9)).is(api.VNoPod).gives("cli", faultOf(udp(at(1, 4), at(1, 3), 9), 3, 1, 0, here))
	b.sends(udp(web, at(1, 4), 9)).is(api.VDelivered).gives("cli", udp(web, at(1, 4), 8))
}

func TestP17_2Unbind(t *testing.T) {
	b := host(t, 1, 1500)
	for _, a := range []api.Addr{0, web, here, cli + 1, math.MaxUint32} {
		if err := b.unbind(a); err != api.ErrNone {
			t.Errorf("P17.2: Unbind(%x) = %d", a, err)
		}
	}
	if err := b.unbind(cli); err != api.OK {
		t.Errorf("P17.2: Unbind = %d", err)
	}
	if err := b.unbind(cli); err != api.ErrNone {
		t.Errorf("P17.2: Unbind again = %d", err)
	}
	b.bound()
	b.sends(udp(web, cli, 9)).is(api.VNoPod)
	b.binds("next", cli)
	b.sends(udp(web, cli, 9)).is(api.VDelivered).gives("next", udp(web, cli, 8))
}

// Rising, above 2147483647 too, whatever the order in which they came.
func TestP17_2Rising(t *testing.T) {
	list := []api.Addr{math.MaxUint32, 1 << 31, 0, 1<<31 - 1, quad(240, 0, 0, 0), 1, quad(10, 0, 0, 0), 1<<31 + 1, quad(9, 255, 255, 255)}
	want := slices.Sorted(slices.Values(list))
	r := dice()
	for range 20 {
		b := begun(t, 1500)
		r.Shuffle(len(list), func(i, j int) { list[i], list[j] = list[j], list[i] })
		b.binds("z", list[:5]...).binds("a", list[5:]...)
		var got []api.Addr
		for _, pod := range b.bound() {
			got = append(got, pod.Addr)
		}
		if !slices.Equal(got, want) {
			t.Fatalf("P17.2: Bound tells %v", got)
		}
	}
}

// Calls by dice, against the model.
func TestP17_2AnySteps(t *testing.T) {
	r := dice()
	for range 30 {
		b := begun(t, 1500)
		for range 300 {
			a := api.Addr(r.Intn(30)) << r.Intn(28)
			if r.Intn(3) > 0 {
				b.bind([]string{"a", "b", ""}[r.Intn(3)], a)
			} else {
				b.unbind(a)
			}
			b.bound()
		}
	}
}

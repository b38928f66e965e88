package world

import (
	"slices"
	"strings"
	"testing"

	"weft/api"
)

// bound: the pods of a host, by their names, each at its address.
func (b both) bound(h int, want ...api.Pod) {
	b.t.Helper()
	if got := b.pods(h); !slices.Equal(got, want) {
		b.t.Errorf("P19.9: host %d has the pods %v, want %v", h, got, want)
	}
}

func podAct(h int, name string) api.Act { return api.Act{Kind: api.ActPod, Host: h, Name: name} }

func unpodAct(h int, name string) api.Act { return api.Act{Kind: api.ActUnpod, Host: h, Name: name} }

// moving is a world of four hosts and three subnets whose host 0 has pods of 10.5.1.0/24, and then the lease of 10.5.2.0/24.
func moving(t *testing.T) both {
	t.Helper()
	b := begun(t, config(withHosts(4), withMax(3)))
	b.calm()
	b.pod(0, "a")
	b.pod(0, "b")
	b.pod(0, "c")
	b.unpod(0, "a")
	b.revoke(0)
	b.steps(3, 20) // host 3 waited for a subnet
	b.revoke(1)
	b.steps(0, 40)
	b.calm()
	if l := b.leases().Leases; len(l) != 3 || l[0].Host != 3 || l[1].Host != 0 {
		t.Fatalf("the leases are not as the test wants them: %+v", l)
	}
	return b
}

func TestP19_9NoSubnet(t *testing.T) {
	b := begun(t, config(withHosts(4), withMax(3)))
	for h := range 4 {
		b.no(api.ErrNoSub, podAct(h, "a"))
		b.no(api.ErrNoSub, podAct(h, ""))
	}
	b.calm()
	b.no(api.ErrNoSub, podAct(3, "a")) // there is no subnet left for it, though it has routes
	b.no(api.ErrNone, unpodAct(3, "a"))
	b.pod(0, "a")
	// The lease goes, the pod stays; for a new one there is no subnet.
	b.revoke(0)
	b.steps(0, 2)
	b.no(api.ErrNoSub, podAct(0, "b"))
	b.no(api.ErrNoSub, podAct(0, "a"))
	b.bound(0, api.Pod{Name: "a", Addr: at(1, 2)})
	if a := b.unpod(0, "a"); a != at(1, 2) {
		t.Errorf("P19.9: a pod that has outlived its subnet had %08x", a)
	}
	b.no(api.ErrNone, unpodAct(0, "a"))
	b.bound(0)
	b.check()
}

func TestP19_9Names(t *testing.T) {
	b := cluster(t)
	b.bound(0, api.Pod{Name: "cli", Addr: cli})
	b.no(api.ErrDup, podAct(0, "cli"))
	for _, name := range []string{"", "-", "-a", "a-", "A", "a.b", "a b", "é", "\xff", "a\n", strings.Repeat("a", 64)} {
		b.no(api.ErrName, podAct(0, name))
		b.no(api.ErrNone, unpodAct(0, name))
	}
	long := strings.Repeat("a", 63)
	if a := b.pod(0, long); a != at(1, 3) {
		t.Errorf("P19.9: %08x", a)
	}
	b.bound(0, api.Pod{Name: "cli", Addr: cli}, api.Pod{Name: long, Addr: at(1, 3)})
	// A name is one host's own.
	if a := b.pod(1, "cli"); a != at(2, 3) {
		t.Errorf("P19.9: %08x", a)
	}
	b.no(api.ErrNone, unpodAct(2, "cli"))
	b.check()
}

func TestP19_9NoRoom(t *testing.T) {
	b := begun(t, config(func(c *api.Config) { c.SubnetLen, c.Min, c.Max = 30, at(0, 4), at(0, 60) }))
	b.calm()
	if a := b.pod(0, "a"); a != at(0, 6) {
		t.Errorf("P19.9: %08x", a)
	}
	b.no(api.ErrFull, podAct(0, "b"))
	b.no(api.ErrDup, podAct(0, "a"))
	b.bound(0, api.Pod{Name: "a", Addr: at(0, 6)})
	b.unpod(0, "a")
	b.bound(0)
	if a := b.pod(0, "b"); a != at(0, 6) {
		t.Errorf("P19.9: %08x", a)
	}
	b.check()
}

func TestP19_9MaxPods(t *testing.T) {
	b := begun(t, config(withHosts(1), func(c *api.Config) { c.SubnetLen, c.Min, c.Max = 20, at(16, 0), at(240, 0) }))
	b.calm()
	name := func(i int) string {
		return "p" + strings.Repeat("x", i/60) + "-" + string(rune('a'+i%26)) + string(rune('a'+i/26%26)) + "z"
	}
	for i := range api.MaxPods {
		if a := b.pod(0, name(i)); a != at(16, 2)+api.Addr(i) {
			t.Fatalf("P19.9: pod %d has %08x", i, a)
		}
	}
	b.no(api.ErrFull, podAct(0, "one-more"))
	if n := len(b.pods(0)); n != api.MaxPods {
		t.Errorf("P19.9: %d pods", n)
	}
	b.unpod(0, name(7))
	b.pod(0, "one-more")
	b.no(api.ErrFull, podAct(0, "and-one"))
	b.check()
}

// With another subnet than before: the old pods are let go by the next ActPod, whether it is done or refused, and not ahead of it.
func TestP19_9AnotherSubnet(t *testing.T) {
	old := []api.Pod{{Name: "b", Addr: at(1, 3)}, {Name: "c", Addr: at(1, 4)}}
	b := moving(t)
	b.bound(0, old...)
	if a := b.unpod(0, "b"); a != at(1, 3) {
		t.Errorf("P19.9: %08x", a)
	}
	b.bound(0, old[1])
	if a := b.pod(0, "c"); a != at(2, 2) { // the name is free again
		t.Errorf("P19.9: the first pod of the new subnet has %08x", a)
	}
	b.bound(0, api.Pod{Name: "c", Addr: at(2, 2)})
	if a := b.pod(0, "b"); a != at(2, 3) {
		t.Errorf("P19.9: the second pod of the new subnet has %08x", a)
	}
	b.no(api.ErrDup, podAct(0, "b"))
	b.check()

	b = moving(t)
	b.no(api.ErrName, podAct(0, "-"))
	b.bound(0)
	b.no(api.ErrNone, unpodAct(0, "b"))
	b.no(api.ErrNone, unpodAct(0, "c"))
	if a := b.pod(0, "b"); a != at(2, 2) {
		t.Errorf("P19.9: %08x", a)
	}
	b.check()
}

// The same subnet again: the pods stay, and addresses go on behind the last one.
func TestP19_9TheSameSubnetAgain(t *testing.T) {
	b := cluster(t)
	b.revoke(0)
	b.calm()
	b.bound(0, api.Pod{Name: "cli", Addr: cli})
	b.no(api.ErrDup, podAct(0, "cli"))
	if a := b.pod(0, "x"); a != at(1, 3) {
		t.Errorf("P19.9: %08x", a)
	}
	b.crash(0)
	b.unpod(0, "x")
	b.start(0)
	b.calm()
	if a := b.pod(0, "x"); a != at(1, 4) {
		t.Errorf("P19.9: %08x", a)
	}
	b.bound(0, api.Pod{Name: "cli", Addr: cli}, api.Pod{Name: "x", Addr: at(1, 4)})
	b.check()
}

// lay puts a route into both kernels of a host, past its agent.
func (b both) lay(h int, op api.Op) {
	b.t.Helper()
	_, err := b.w.hosts[h].kernel.Do(op)
	if _, again := b.m.hosts[h].kernel.Do(op); err != api.OK || again != api.OK {
		b.t.Fatalf("the kernel refuses: %d, %d", err, again)
	}
}

// The first local route of the kernel is the host's subnet, whatever routes there are besides. (Acts alone lead to one local route at most; these are laid past them.)
func TestP19_9TheFirstLocalRoute(t *testing.T) {
	local := func(p api.Prefix) api.Op {
		return api.Op{Kind: api.PutRoute, Route: api.Route{Dst: p, Local: true}}
	}
	b := cluster(t)
	b.lay(2, local(sub(200)))
	if a := b.pod(2, "x"); a != at(3, 3) {
		t.Errorf("P19.9: %08x", a)
	}
	b.lay(2, local(api.Prefix{Addr: quad(10, 4, 0, 0), Len: 24}))
	if a := b.pod(2, "x"); a != quad(10, 4, 0, 2) {
		t.Errorf("P19.9: %08x", a)
	}
	b.bound(2, api.Pod{Name: "x", Addr: quad(10, 4, 0, 2)})
	// Of the same base, but another length, it is another subnet.
	b.lay(2, api.Op{Kind: api.DelRoute, Route: api.Route{Dst: api.Prefix{Addr: quad(10, 4, 0, 0), Len: 24}}})
	b.lay(2, local(api.Prefix{Addr: quad(10, 4, 0, 0), Len: 25}))
	if a := b.pod(2, "y"); a != quad(10, 4, 0, 2) {
		t.Errorf("P19.9: %08x", a)
	}
	b.bound(2, api.Pod{Name: "y", Addr: quad(10, 4, 0, 2)})
	// A subnet that has no room for pods: the host has no pods' addresses then.
	b.lay(2, local(api.Prefix{Addr: quad(10, 3, 0, 0), Len: 31}))
	b.no(api.ErrSub, podAct(2, "z"))
	b.bound(2)
	b.no(api.ErrNone, unpodAct(2, "y"))
	b.no(api.ErrSub, podAct(2, "z"))
	b.lay(2, api.Op{Kind: api.DelRoute, Route: api.Route{Dst: api.Prefix{Addr: quad(10, 3, 0, 0), Len: 31}}})
	if a := b.pod(2, "y"); a != quad(10, 4, 0, 2) {
		t.Errorf("P19.9: %08x", a)
	}
	b.check()
}

func TestP19_7Unpod(t *testing.T) {
	b := cluster(t)
	b.pod(0, "x")
	if r := b.ok(unpodAct(0, "cli")); r.N != int64(cli) {
		t.Errorf("P19.7: Unpod = %s", brief(r))
	}
	b.bound(0, api.Pod{Name: "x", Addr: at(1, 3)})
	b.no(api.ErrNone, unpodAct(0, "cli"))
	b.no(api.ErrNone, unpodAct(0, "web"))
	if r := b.send(1, wire(udp(web, cli, 9))); r.Verdict != api.VSent {
		t.Errorf("P19.7: %s", brief(r))
	}
	if r := b.deliver(0); r.Verdict != api.VNoPod || len(r.Given) != 0 || r.N != 1 {
		t.Errorf("P19.7: to a pod that is gone: %s", brief(r))
	}
	b.check()
}

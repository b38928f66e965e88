package path

import (
	"math"
	"slices"
	"testing"

	"weft/api"
	"weft/tables"
)

func TestP17_1NoKernel(t *testing.T) {
	for _, e := range []api.Env{env(1, 1500), {}, {VNI: -1}} {
		if p, err := New(e, nil); p != nil || err != api.ErrArg {
			t.Errorf("P17.1: New(%+v, nil) = %v, %d", e, p, err)
		}
	}
}

// Each number just inside and just outside its limits.
func TestP17_1Limits(t *testing.T) {
	k, _ := tables.New(1, 1, 1)
	set := []struct {
		what       string
		put        func(e *api.Env, n int)
		least, top int
	}{
		{"VNI", func(e *api.Env, n int) { e.VNI = n }, 0, 16777215},
		{"Port", func(e *api.Env, n int) { e.Port = n }, 1, 65535},
		{"MTU", func(e *api.Env, n int) { e.MTU = n }, 126, 9000},
	}
	for _, s := range set {
		for _, n := range []int{s.least, s.least + 1, (s.least + s.top) / 2, s.top - 1, s.top} {
			e := env(1, 1500)
			s.put(&e, n)
			if p, err := New(e, k); p == nil || err != api.OK {
				t.Errorf("P17.1: %s %d: %v, %d", s.what, n, p, err)
			}
		}
		for _, n := range []int{math.MinInt, -s.top, s.least - 1, s.top + 1, s.top + 1 + s.least, 1 << 32, 1<<32 + s.least, math.MaxInt} {
			e := env(1, 1500)
			s.put(&e, n)
			if p, err := New(e, k); p != nil || err != api.ErrArg {
				t.Errorf("P17.1: %s %d: %v, %d", s.what, n, p, err)
			}
		}
	}
}

// The host's addresses may be anything.
func TestP17_1AnyAddresses(t *testing.T) {
	k, _ := tables.New(9, 9, 9)
	for _, a := range []api.Addr{0, 1, quad(127, 0, 0, 1), quad(224, 0, 0, 1), math.MaxUint32} {
		for _, m := range []api.MAC{{}, {1}, {255, 255, 255, 255, 255, 255}} {
			b := over(t, api.Env{Pub: a, MAC: m, VNI: 0, Port: 1, MTU: 126}, k)
			b.does(ends(1)...)
			b.sends(udp(cli, web, 9)).is(api.VSent).puts(udp(cli, web, 8))
			b.binds("x", cli)
			b.receive(wrapped(b.m.env, m, a, raw(udp(web, cli, 9)))).is(api.VDelivered).gives("x", udp(web, cli, 8))
		}
	}
}

// A new datapath has no pods, and nothing is counted.
func TestP17_1Fresh(t *testing.T) {
	b := begun(t, 1500)
	if list := b.p.Bound(); len(list) != 0 {
		t.Errorf("P17.1: bound: %v", list)
	}
	if got := b.p.Counts(); !slices.Equal(got, make([]int, 22)) {
		t.Errorf("P17.1: counts: %v", got)
	}
}

// Each call looks at what the kernel holds then.
func TestP17_1KernelChanges(t *testing.T) {
	b := begun(t, 1500).binds("cli", cli).binds("far", web)
	there := udp(cli, web, 9)
	b.sends(there).only(api.VNoRoute)
	b.does(putLocal(at(1, 0), 24))
	b.sends(there).is(api.VNoRoute).tells(there, 3, 0, 0)
	b.does(putVia(at(2, 0), 24, at(2, 0)))
	b.sends(there).is(api.VNoNeigh).tells(there, 3, 1, 0)
	b.does(putNeigh(at(2, 0), mac(2)))
	b.sends(there).is(api.VNoFdb).tells(there, 3, 1, 0)
	b.does(putFdb(mac(2), pub(2)))
	b.sends(there).is(api.VSent).puts(withTTL(there, 8))
	b.receives(there).only(api.VLoop)
	b.does(putFdb(mac(2), 77))
	b.sends(there).is(api.VSent).putsTo(77, mac(2), withTTL(there, 8))
	b.does(putNeigh(at(2, 0), mac(3)), putFdb(mac(3), 78))
	b.sends(there).is(api.VSent).putsTo(78, mac(3), withTTL(there, 8))
	b.does(putVia(web, 32, 5), putNeigh(5, mac(2)))
	b.sends(there).is(api.VSent).putsTo(77, mac(2), withTTL(there, 8))
	b.does(putLocal(web, 32))
	b.sends(there).is(api.VDelivered).gives("far", withTTL(there, 8))
	b.receives(there).is(api.VDelivered).gives("far", withTTL(there, 8))
	b.does(delRoute(web, 32), putLocal(at(2, 0), 30))
	b.sends(udp(web, at(9, 9), 9)).is(api.VNoRoute).gives("far", faultOf(udp(web, at(9, 9), 9), 3, 0, 0, here))
	b.does(delRoute(at(1, 0), 24))
	b.sends(udp(web, at(9, 9), 9)).is(api.VNoRoute).gives("far", faultOf(udp(web, at(9, 9), 9), 3, 0, 0, beyond))
	b.k.Flush()
	b.sends(there).only(api.VNoRoute)
	b.receives(there).only(api.VNoRoute)
}

// Two datapaths on one kernel have their pods and counts each for itself.
func TestP17_1OneKernel(t *testing.T) {
	k, _ := tables.New(9, 9, 9)
	k.Do(ends(1)...)
	b, c := over(t, env(1, 1500), k), over(t, env(1, 126), k)
	b.binds("mine", cli)
	c.binds("theirs", cli, at(1, 3))
	b.sends(udp(web, cli, 9)).is(api.VDelivered).gives("mine", udp(web, cli, 8))
	c.sends(udp(web, cli, 9)).is(api.VDelivered).gives("theirs", udp(web, cli, 8))
	b.sends(udp(cli, at(1, 3), 9)).is(api.VNoPod).gives("mine", faultOf(udp(cli, at(1, 3), 9), 3, 1, 0, here))
	c.sends(udp(cli, at(1, 3), 9)).is(api.VDelivered).gives("theirs", udp(cli, at(1, 3), 8))
	b.sends(sized(udp(cli, web, 9), 77)).is(api.VSent).puts(sized(udp(cli, web, 8), 77))
	if o := c.sends(sized(udp(cli, web, 9), 77)).is(api.VSent); len(o.r.Out) != 2 {
		t.Errorf("P17.4: %d pieces", len(o.r.Out))
	}
	b.does(delFdb(mac(2)))
	b.sends(udp(web, web, 9)).only(api.VNoFdb)
	c.sends(udp(web, web, 9)).only(api.VNoFdb)
	b.counts()
	c.counts()
}

// Two datapaths on two kernels know nothing of each other.
func TestP17_1TwoKernels(t *testing.T) {
	b, c := host(t, 1, 1500), host(t, 2, 1500)
	b.sends(udp(cli, web, 9)).is(api.VSent).puts(udp(cli, web, 8))
	c.k.Flush()
	b.sends(udp(cli, web, 9)).is(api.VSent).puts(udp(cli, web, 8))
	c.sends(udp(cli, web, 9)).only(api.VNoRoute)
	b.counts()
	c.counts()
	b.bound()
	c.bound()
}

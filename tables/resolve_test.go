package tables

import (
	"math"
	"testing"

	"weft/addr"
	"weft/api"
)

// resolves tells that an address has this way.
func resolves(t *testing.T, k *Kernel, dst string, want api.Hop, f api.Errno) {
	t.Helper()
	if h, e := k.Resolve(at(t, dst)); h != want || e != f {
		t.Errorf("P9.3: Resolve(%s) = %v, %d, want %v, %d", dst, h, e, want, f)
	}
}

func TestP9_3NoRoute(t *testing.T) {
	k, m := made(t, 4, 4, 4)
	done(t, k, m, putNeigh(at(t, "10.1.2.3"), api.MAC{1}), putFdb(api.MAC{1}, 5))
	resolves(t, k, "10.1.2.3", api.Hop{}, api.ErrRoute)
	done(t, k, m, putLocal(net(t, "10.1.2.0/24")), putVia(net(t, "10.1.4.0/24"), at(t, "10.1.2.3")))
	for _, s := range []string{"10.1.1.255", "10.1.3.0", "10.1.3.255", "10.1.5.0", "0.0.0.0", "255.255.255.255", "138.1.2.0"} {
		resolves(t, k, s, api.Hop{}, api.ErrRoute)
	}
	check(t, k, m)
}

// A local route asks neither of the other tables, and its Hop has nothing of them.
func TestP9_3Local(t *testing.T) {
	k, m := made(t, 4, 4, 4)
	p := net(t, "10.1.2.0/24")
	done(t, k, m, putLocal(p))
	resolves(t, k, "10.1.2.0", api.Hop{Local: true, Dst: p}, api.OK)
	done(t, k, m, putNeigh(0, api.MAC{1}), putFdb(api.MAC{1}, 5), putNeigh(p.Addr, api.MAC{1}), putFdb(api.MAC{}, 5))
	resolves(t, k, "10.1.2.0", api.Hop{Local: true, Dst: p}, api.OK)
	resolves(t, k, "10.1.2.255", api.Hop{Local: true, Dst: p}, api.OK)
	check(t, k, m)
}

// The way goes by the route's Via, not by the packet's address nor by the route's own.
func TestP9_3Via(t *testing.T) {
	k, m := made(t, 4, 4, 4)
	p, via := net(t, "10.1.2.0/24"), at(t, "172.16.0.9")
	done(t, k, m, putVia(p, via))
	done(t, k, m, putNeigh(p.Addr, api.MAC{1}), putNeigh(at(t, "10.1.2.3"), api.MAC{2}), putNeigh(at(t, "192.0.2.1"), api.MAC{3}))
	done(t, k, m, putFdb(api.MAC{1}, 1), putFdb(api.MAC{2}, 2), putFdb(api.MAC{3}, 3))
	resolves(t, k, "10.1.2.3", api.Hop{}, api.ErrNeigh)
	done(t, k, m, putNeigh(via, api.MAC{4}))
	resolves(t, k, "10.1.2.3", api.Hop{}, api.ErrFdb)
	done(t, k, m, putFdb(api.MAC{4}, at(t, "192.0.2.1")))
	hop := api.Hop{Dst: p, Via: via, MAC: api.MAC{4}, To: at(t, "192.0.2.1")}
	resolves(t, k, "10.1.2.3", hop, api.OK)
	resolves(t, k, "10.1.2.0", hop, api.OK)
	resolves(t, k, "10.1.2.255", hop, api.OK)
	done(t, k, m, putNeigh(via, api.MAC{2}))
	resolves(t, k, "10.1.2.3", api.Hop{Dst: p, Via: via, MAC: api.MAC{2}, To: 2}, api.OK)
	done(t, k, m, putFdb(api.MAC{2}, 77))
	resolves(t, k, "10.1.2.3", api.Hop{Dst: p, Via: via, MAC: api.MAC{2}, To: 77}, api.OK)
	done(t, k, m, delFdb(api.MAC{2}))
	resolves(t, k, "10.1.2.3", api.Hop{}, api.ErrFdb)
	done(t, k, m, delNeigh(via))
	resolves(t, k, "10.1.2.3", api.Hop{}, api.ErrNeigh)
	done(t, k, m, delRoute(p))
	resolves(t, k, "10.1.2.3", api.Hop{}, api.ErrRoute)
	check(t, k, m)
}

// A way of nothing but zeros is a way.
func TestP9_3Zeros(t *testing.T) {
	k, m := made(t, 1, 1, 1)
	done(t, k, m, putVia(api.Prefix{}, 0))
	resolves(t, k, "0.0.0.0", api.Hop{}, api.ErrNeigh)
	done(t, k, m, putNeigh(0, api.MAC{}))
	resolves(t, k, "0.0.0.0", api.Hop{}, api.ErrFdb)
	done(t, k, m, putFdb(api.MAC{}, 0))
	resolves(t, k, "0.0.0.0", api.Hop{}, api.OK)
	resolves(t, k, "255.255.255.255", api.Hop{}, api.OK)
}

// The longest route decides alone: where its way ends, no shorter one is taken.
func TestP9_3NoWayBack(t *testing.T) {
	k, m := made(t, 4, 4, 4)
	done(t, k, m, putLocal(api.Prefix{}), putVia(net(t, "10.0.0.0/8"), 1), putVia(net(t, "10.1.0.0/16"), 2), putVia(net(t, "10.1.2.0/24"), 3))
	done(t, k, m, putNeigh(1, api.MAC{1}), putNeigh(2, api.MAC{2}), putFdb(api.MAC{1}, 11))
	resolves(t, k, "11.0.0.0", api.Hop{Local: true}, api.OK)
	resolves(t, k, "10.2.0.0", api.Hop{Dst: net(t, "10.0.0.0/8"), Via: 1, MAC: api.MAC{1}, To: 11}, api.OK)
	resolves(t, k, "10.1.3.0", api.Hop{}, api.ErrFdb)
	resolves(t, k, "10.1.2.3", api.Hop{}, api.ErrNeigh)
	done(t, k, m, putLocal(net(t, "10.1.2.0/24")))
	resolves(t, k, "10.1.2.3", api.Hop{Local: true, Dst: net(t, "10.1.2.0/24")}, api.OK)
	done(t, k, m, delRoute(net(t, "10.1.2.0/24")))
	resolves(t, k, "10.1.2.3", api.Hop{}, api.ErrFdb)
	done(t, k, m, delRoute(net(t, "10.1.0.0/16")))
	resolves(t, k, "10.1.2.3", api.Hop{Dst: net(t, "10.0.0.0/8"), Via: 1, MAC: api.MAC{1}, To: 11}, api.OK)
	check(t, k, m)
}

// All 33 prefixes of an address, every other one local, one going behind the other.
func TestP9_3ManyNested(t *testing.T) {
	for _, a := range []api.Addr{0, math.MaxUint32, at(t, "10.1.3.7"), at(t, "170.170.170.170")} {
		k, m := made(t, 33, 33, 33)
		for n := range 33 {
			v := api.Addr(n)
			if n%2 == 0 {
				done(t, k, m, putLocal(cut(a, n)))
			} else {
				done(t, k, m, putVia(cut(a, n), v), putNeigh(v, api.MAC{byte(n)}), putFdb(api.MAC{byte(n)}, v+1000))
			}
		}
		check(t, k, m, a)
		for n := range 32 {
			beside := a ^ 1<<(31-n)
			h, e := k.Resolve(beside)
			if h.Dst != cut(a, n) || h.Local != (n%2 == 0) || e != api.OK {
				t.Errorf("Resolve(%s) = %v, %d, want the length %d", addr.Format(beside), h, e, n)
			}
		}
		for n := 32; n >= 0; n-- {
			if h, e := k.Resolve(a); h.Dst != cut(a, n) || e != api.OK {
				t.Errorf("Resolve(%s) = %v, %d, want the length %d", addr.Format(a), h, e, n)
			}
			done(t, k, m, delRoute(cut(a, n)))
			check(t, k, m, a)
		}
	}
}

// Both ends of a prefix of each length are held by it, and the addresses beside them are not.
func TestP9_3Ends(t *testing.T) {
	for _, a := range []api.Addr{0, math.MaxUint32, at(t, "10.1.3.7"), at(t, "127.255.255.255"), at(t, "128.0.0.0")} {
		for n := range 33 {
			k, m := made(t, 1, 1, 1)
			p := cut(a, n)
			done(t, k, m, putLocal(p))
			for _, in := range []api.Addr{p.Addr, lastOf(p), a} {
				if h, e := k.Resolve(in); h != (api.Hop{Local: true, Dst: p}) || e != api.OK {
					t.Errorf("of %v: Resolve(%s) = %v, %d", p, addr.Format(in), h, e)
				}
			}
			check(t, k, m)
			if out := lastOf(p) + 1; n > 0 {
				if h, e := k.Resolve(out); h != (api.Hop{}) || e != api.ErrRoute {
					t.Errorf("of %v: Resolve(%s) = %v, %d", p, addr.Format(out), h, e)
				}
			}
		}
	}
}

// The whole address space and its last address.
func TestP9_3AllAndLast(t *testing.T) {
	k, m := made(t, 2, 2, 2)
	last := net(t, "255.255.255.255/32")
	done(t, k, m, putVia(api.Prefix{}, 9), putNeigh(9, api.MAC{9}), putFdb(api.MAC{9}, 10), putLocal(last))
	all := api.Hop{Via: 9, MAC: api.MAC{9}, To: 10}
	resolves(t, k, "0.0.0.0", all, api.OK)
	resolves(t, k, "128.0.0.0", all, api.OK)
	resolves(t, k, "255.255.255.254", all, api.OK)
	resolves(t, k, "255.255.255.255", api.Hop{Local: true, Dst: last}, api.OK)
	done(t, k, m, delRoute(api.Prefix{}))
	resolves(t, k, "255.255.255.254", api.Hop{}, api.ErrRoute)
	resolves(t, k, "255.255.255.255", api.Hop{Local: true, Dst: last}, api.OK)
	check(t, k, m)
}

// Neighbours share a hardware address, routes a neighbour, and ways end where one of the bytes differs.
func TestP9_3Shared(t *testing.T) {
	k, m := made(t, 4, 4, 4)
	x, y, z := mac(t, "02:00:00:00:00:01"), mac(t, "03:00:00:00:00:01"), mac(t, "02:00:00:00:00:02")
	done(t, k, m, putVia(net(t, "10.1.0.0/16"), 1), putVia(net(t, "10.2.0.0/16"), 1), putVia(net(t, "10.3.0.0/16"), 2), putVia(net(t, "10.4.0.0/16"), 3))
	done(t, k, m, putNeigh(1, x), putNeigh(2, x), putNeigh(3, y), putFdb(x, 5), putFdb(z, 6))
	check(t, k, m)
	resolves(t, k, "10.2.0.1", api.Hop{Dst: net(t, "10.2.0.0/16"), Via: 1, MAC: x, To: 5}, api.OK)
	resolves(t, k, "10.3.0.1", api.Hop{Dst: net(t, "10.3.0.0/16"), Via: 2, MAC: x, To: 5}, api.OK)
	resolves(t, k, "10.4.0.1", api.Hop{}, api.ErrFdb)
	done(t, k, m, putFdb(y, 7))
	resolves(t, k, "10.4.0.1", api.Hop{Dst: net(t, "10.4.0.0/16"), Via: 3, MAC: y, To: 7}, api.OK)
	resolves(t, k, "10.2.0.1", api.Hop{Dst: net(t, "10.2.0.0/16"), Via: 1, MAC: x, To: 5}, api.OK)
}

func TestP9_3ChangesNothing(t *testing.T) {
	k, m := crowded(t, 8, 8, 8)
	before := k.Dump()
	for _, r := range before.Routes {
		for range 3 {
			checkResolve(t, k, m, r.Dst.Addr)
			checkResolve(t, k, m, r.Dst.Addr+1)
		}
	}
	if after := k.Dump(); !sameTables(before, after) {
		t.Errorf("%v became %v", before, after)
	}
}

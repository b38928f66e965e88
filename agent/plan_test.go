package agent

import (
	"math"
	"math/rand"
	"slices"
	"testing"

	"weft/api"
)

// plans tells that a Plan is that, and what the model says.
func plans(t *testing.T, leases []api.Lease, host int, want api.Tables) {
	t.Helper()
	got := Plan(leases, host)
	if !sameTables(got, want) {
		t.Errorf("P16.1: Plan(%+v, %d) = %+v, want %+v", leases, host, got, want)
	}
	if model := planned(leases, host).tables(); !sameTables(got, model) {
		t.Errorf("P16.1: Plan(%+v, %d) = %+v, the model's is %+v", leases, host, got, model)
	}
}

func TestP16_1Ordinary(t *testing.T) {
	plans(t, nil, me, api.Tables{})
	plans(t, []api.Lease{}, me, api.Tables{})
	plans(t, []api.Lease{held(me, 3, 0, 0)}, me, tables(routes(local(3)), nil, nil))
	plans(t, []api.Lease{held(1, 3, 0, 0)}, me, tables(routes(away(3)), neighs(neigh(3, 1)), fdbs(fdb(1))))
	// The order of the leases is not that of the tables, and each table has its own.
	plans(t, []api.Lease{held(0, 9, 7, 7), held(me, 5, 0, 1), held(3, 1, 0, 2), held(1, 7, -3, 9)}, me, tables(
		routes(away(1), local(5), away(7), away(9)),
		neighs(neigh(1, 3), neigh(7, 1), neigh(9, 0)),
		fdbs(fdb(0), fdb(1), fdb(3))))
}

// Who is own hangs on the host alone, whatever number it is.
func TestP16_1Hosts(t *testing.T) {
	for _, host := range []int{math.MinInt, -1, 0, 1, 63, 64, math.MaxInt} {
		l := held(1, 4, 0, 0)
		l.Host = host
		plans(t, []api.Lease{l}, host, tables(routes(local(4)), nil, nil))
		plans(t, []api.Lease{l}, host^1, tables(routes(away(4)), neighs(neigh(4, 1)), fdbs(fdb(1))))
	}
}

func TestP16_1NoPrefix(t *testing.T) {
	l := held(1, 4, 0, 0)
	for _, bad := range []api.Lease{
		at(l, base(4)+1, 24), at(l, base(4), 21), at(l, base(4), 33), at(l, base(4), -1), at(l, 0, 33), at(l, 0, -1),
		at(l, 1, 0), at(l, 1, 31), at(l, math.MaxUint32, 31), at(l, 0, math.MinInt), at(l, 0, math.MaxInt), at(l, 0, 1<<32),
	} {
		plans(t, []api.Lease{bad}, me, api.Tables{})
		plans(t, []api.Lease{bad}, bad.Host, api.Tables{})
		plans(t, []api.Lease{held(3, 5, 0, 0), bad, held(me, 6, 0, 0)}, me, tables(routes(away(5), local(6)), neighs(neigh(5, 3)), fdbs(fdb(3))))
	}
	for _, good := range []api.Lease{at(l, 0, 0), at(l, 1, 32), at(l, math.MaxUint32, 32), at(l, 1<<31, 1)} {
		p := good.Subnet
		plans(t, []api.Lease{good}, me, tables(routes(api.Route{Dst: p, Via: p.Addr}), neighs(api.Neigh{IP: p.Addr, MAC: mac(1)}), fdbs(fdb(1))))
		plans(t, []api.Lease{good}, 1, tables(routes(api.Route{Dst: p, Local: true}), nil, nil))
	}
}

// Of several leases with one subnet the last one's route stays; what is beside it goes by its own key.
func TestP16_1OneSubnet(t *testing.T) {
	plans(t, []api.Lease{held(me, 5, 0, 0), held(1, 5, 0, 0)}, me, tables(routes(away(5)), neighs(neigh(5, 1)), fdbs(fdb(1))))
	plans(t, []api.Lease{held(1, 5, 0, 0), held(me, 5, 0, 0)}, me, tables(routes(local(5)), neighs(neigh(5, 1)), fdbs(fdb(1))))
	plans(t, []api.Lease{held(1, 5, 0, 0), held(3, 5, 0, 0)}, me, tables(routes(away(5)), neighs(neigh(5, 3)), fdbs(fdb(1), fdb(3))))
	plans(t, []api.Lease{held(3, 5, 0, 0), held(1, 5, 0, 0), held(0, 5, 0, 0)}, me, tables(routes(away(5)), neighs(neigh(5, 0)), fdbs(fdb(0), fdb(1), fdb(3))))
}

func TestP16_1OneBase(t *testing.T) {
	long, short := at(held(1, 0, 0, 0), base(4), 24), at(held(3, 0, 0, 0), base(4), 22)
	rs := routes(api.Route{Dst: short.Subnet, Via: base(4)}, api.Route{Dst: long.Subnet, Via: base(4)})
	plans(t, []api.Lease{long, short}, me, tables(rs, neighs(neigh(4, 3)), fdbs(fdb(1), fdb(3))))
	plans(t, []api.Lease{short, long}, me, tables(rs, neighs(neigh(4, 1)), fdbs(fdb(1), fdb(3))))
	plans(t, []api.Lease{short, long}, 1, tables(routes(rs[0], local(4)), neighs(neigh(4, 3)), fdbs(fdb(3))))
}

func TestP16_1OneMAC(t *testing.T) {
	x, y := held(1, 4, 0, 0), held(3, 7, 0, 0)
	y.MAC = x.MAC
	rs, ns := routes(away(4), away(7)), neighs(neigh(4, 1), neigh(7, 1))
	plans(t, []api.Lease{x, y}, me, tables(rs, ns, fdbs(api.Fdb{MAC: mac(1), To: pub(3)})))
	plans(t, []api.Lease{y, x}, me, tables(rs, ns, fdbs(fdb(1))))
	// An own lease lays no entry, not even over another one's.
	own := held(me, 8, 0, 0)
	own.MAC = x.MAC
	plans(t, []api.Lease{x, own}, me, tables(routes(away(4), local(8)), neighs(neigh(4, 1)), fdbs(fdb(1))))
}

// The MACs rise by their bytes, the first one first, without a sign; addresses as well.
func TestP16_1Orders(t *testing.T) {
	macs := []api.MAC{{0, 0, 0, 0, 0, 1}, {0, 0, 0, 0, 1, 0}, {0, 255, 255, 255, 255, 255}, {1}, {127, 9}, {128}, {255, 255, 255, 255, 255, 255}}
	bases := []api.Addr{0, 1 << 24, 127 << 24, 128 << 24, 200 << 24, 255 << 24, 255<<24 + 1<<16}
	var list []api.Lease
	want := api.Tables{}
	for i, m := range macs {
		p := api.Prefix{Addr: bases[i], Len: 16}
		list = append(list, api.Lease{Host: 1, Subnet: p, MAC: m, Pub: api.Addr(100 - i)})
		want.Routes = append(want.Routes, api.Route{Dst: p, Via: p.Addr})
		want.Neighs = append(want.Neighs, api.Neigh{IP: p.Addr, MAC: m})
		want.Fdbs = append(want.Fdbs, api.Fdb{MAC: m, To: api.Addr(100 - i)})
	}
	r := dice()
	for range 50 {
		r.Shuffle(len(list), func(i, j int) { list[i], list[j] = list[j], list[i] })
		plans(t, list, me, want)
	}
}

// anyPrefix is mostly one of a few valid ones, some of which share a base.
func anyPrefix(r *rand.Rand) api.Prefix {
	switch r.Intn(20) {
	case 0:
		return api.Prefix{Addr: base(r.Intn(8)), Len: 16 + r.Intn(17)}
	case 1:
		return api.Prefix{Addr: api.Addr(r.Uint32()), Len: r.Intn(40) - 3}
	case 2:
		return api.Prefix{}
	case 3:
		return api.Prefix{Addr: base(4 * r.Intn(2)), Len: 22}
	}
	return sub(r.Intn(6))
}

func anyLease(r *rand.Rand) api.Lease {
	l := held(r.Intn(4), 0, int64(r.Intn(40)), int64(r.Intn(12)))
	l.Subnet = anyPrefix(r)
	if r.Intn(4) == 0 {
		l.MAC = mac(r.Intn(4))
	}
	if r.Intn(6) == 0 {
		l.Pub = pub(r.Intn(4))
	}
	if r.Intn(20) == 0 {
		l.Until = []int64{math.MinInt64, -1, math.MaxInt64 - 1, math.MaxInt64}[r.Intn(4)]
	}
	return l
}

// Leases by dice, against the model; each plan is in order, and each route in it leads somewhere.
func TestP16_1Any(t *testing.T) {
	r := dice()
	for range 4000 {
		list := make([]api.Lease, r.Intn(12))
		for i := range list {
			list[i] = anyLease(r)
		}
		got := Plan(list, me)
		if want := planned(list, me); !sameTables(got, want.tables()) {
			t.Fatalf("P16.1: Plan(%+v) = %+v, want %+v", list, got, want.tables())
		}
		if !isOrdered(got) || !layOf(got).isWhole() {
			t.Fatalf("P16.1: Plan(%+v) = %+v", list, got)
		}
	}
}

// A great many leases.
func TestP16_1Many(t *testing.T) {
	var list []api.Lease
	for i := range 20000 {
		k := i * 7919 % 20000
		list = append(list, api.Lease{Host: 1, Subnet: api.Prefix{Addr: api.Addr(k) << 8, Len: 24}, MAC: api.MAC{byte(k), byte(k >> 8)}, Pub: api.Addr(i)})
	}
	list = append(list, list[:100]...)
	if got := Plan(list, me); !sameTables(got, planned(list, me).tables()) {
		t.Error("P16.1: of many leases the plan is another")
	}
}

// The leases stay as they were, and the tables share nothing with them or with another plan's.
func TestP16_13Plan(t *testing.T) {
	list := []api.Lease{held(0, 9, 1, 1), held(me, 5, 1, 1), held(3, 1, 1, 1), held(3, 1, 1, 1)}
	room := append(slices.Clone(list), held(1, 1, 1, 1))
	one := Plan(room[:len(list)], me)
	two := Plan(room[:len(list)], me)
	was := copyTables(two)
	spoilTables(one)
	if !slices.Equal(room, append(slices.Clone(list), held(1, 1, 1, 1))) {
		t.Errorf("P16.13: the leases became %+v", room)
	}
	for i := range room {
		room[i] = api.Lease{}
	}
	if !sameTables(two, was) {
		t.Errorf("P16.13: another plan became %+v", two)
	}
}

package agent

import (
	"math"
	"math/rand"
	"slices"
	"testing"

	"weft/api"
)

// diffs tells that a Diff is these changes, and what the model says.
func diffs(t *testing.T, have, want api.Tables, ops ...api.Op) {
	t.Helper()
	got, err := Diff(have, want)
	if err != api.OK || !slices.Equal(got, ops) {
		t.Errorf("P16.2: Diff(%+v, %+v) = %+v, %d, want %+v", have, want, got, err, ops)
	}
	if model := diffed(layOf(have), layOf(want)); !slices.Equal(got, model) {
		t.Errorf("P16.2: Diff(%+v, %+v) = %+v, the model's is %+v", have, want, got, model)
	}
}

// full is tables of two hosts and an own subnet.
func full() api.Tables {
	return tables(routes(away(1), local(2), away(3)), neighs(neigh(1, 1), neigh(3, 3)), fdbs(fdb(1), fdb(3)))
}

func TestP16_2Same(t *testing.T) {
	diffs(t, api.Tables{}, api.Tables{})
	diffs(t, tables(routes(), neighs(), fdbs()), api.Tables{})
	diffs(t, full(), full())
}

func TestP16_2FromNothing(t *testing.T) {
	diffs(t, api.Tables{}, full(), putFdb(fdb(1)), putFdb(fdb(3)), putNeigh(neigh(1, 1)), putNeigh(neigh(3, 3)),
		putRoute(away(1)), putRoute(local(2)), putRoute(away(3)))
}

func TestP16_2ToNothing(t *testing.T) {
	diffs(t, full(), api.Tables{}, delRoute(local(2)), delRoute(away(1)), delRoute(away(3)),
		delNeigh(neigh(1, 1)), delNeigh(neigh(3, 3)), delFdb(fdb(1)), delFdb(fdb(3)))
}

// All six groups, two changes in each.
func TestP16_2Groups(t *testing.T) {
	have := tables(routes(away(1), local(2), away(3), local(4), away(9)), neighs(neigh(1, 1), neigh(3, 3), neigh(9, 9)), fdbs(fdb(1), fdb(3), fdb(9)))
	want := tables(routes(away(5), local(6), away(7), away(9)), neighs(neigh(5, 5), neigh(7, 7), neigh(9, 9)), fdbs(fdb(5), fdb(7), fdb(9)))
	diffs(t, have, want,
		delRoute(local(2)), delRoute(local(4)), delRoute(away(1)), delRoute(away(3)),
		delNeigh(neigh(1, 1)), delNeigh(neigh(3, 3)), delFdb(fdb(1)), delFdb(fdb(3)),
		putFdb(fdb(5)), putFdb(fdb(7)), putNeigh(neigh(5, 5)), putNeigh(neigh(7, 7)),
		putRoute(away(5)), putRoute(local(6)), putRoute(away(7)))
}

// An entry whose value changes goes and comes again; its key alone does not make it the same.
func TestP16_2Changed(t *testing.T) {
	far := api.Route{Dst: sub(1), Via: 7}
	diffs(t, tables(routes(away(1)), nil, nil), tables(routes(far), nil, nil), delRoute(away(1)), putRoute(far))
	diffs(t, tables(routes(away(1)), nil, nil), tables(routes(local(1)), nil, nil), delRoute(away(1)), putRoute(local(1)))
	diffs(t, tables(routes(local(1)), nil, nil), tables(routes(away(1)), nil, nil), delRoute(local(1)), putRoute(away(1)))
	odd := api.Route{Dst: sub(1), Via: 7, Local: true}
	diffs(t, tables(routes(odd), nil, nil), tables(routes(local(1)), nil, nil), delRoute(odd), putRoute(local(1)))
	diffs(t, tables(routes(odd), nil, nil), tables(routes(far), nil, nil), delRoute(odd), putRoute(far))
	diffs(t, tables(nil, neighs(neigh(1, 1)), nil), tables(nil, neighs(neigh(1, 2)), nil), delNeigh(neigh(1, 1)), putNeigh(neigh(1, 2)))
	other := api.Fdb{MAC: mac(1), To: 9}
	diffs(t, tables(nil, nil, fdbs(fdb(1))), tables(nil, nil, fdbs(other)), delFdb(fdb(1)), putFdb(other))
	short := api.Route{Dst: api.Prefix{Addr: base(4), Len: 22}, Via: base(4)}
	diffs(t, tables(routes(short), nil, nil), tables(routes(away(4)), nil, nil), delRoute(short), putRoute(away(4)))
}

// A route that is the same on both sides goes, while what it leads to changes.
func TestP16_2WayChanges(t *testing.T) {
	whole := tables(routes(away(1)), neighs(neigh(1, 1)), fdbs(fdb(1)))
	moved := api.Fdb{MAC: mac(1), To: 9}
	diffs(t, whole, tables(routes(away(1)), neighs(neigh(1, 1)), fdbs(moved)),
		delRoute(away(1)), delFdb(fdb(1)), putFdb(moved), putRoute(away(1)))
	diffs(t, whole, tables(routes(away(1)), neighs(neigh(1, 4)), fdbs(fdb(4))),
		delRoute(away(1)), delNeigh(neigh(1, 1)), delFdb(fdb(1)), putFdb(fdb(4)), putNeigh(neigh(1, 4)), putRoute(away(1)))
	// Another neighbour whose entry both sides have.
	two := fdbs(fdb(1), fdb(4))
	diffs(t, tables(routes(away(1)), neighs(neigh(1, 1)), two), tables(routes(away(1)), neighs(neigh(1, 4)), two),
		delRoute(away(1)), delNeigh(neigh(1, 1)), putNeigh(neigh(1, 4)), putRoute(away(1)))
	// An own subnet's route has no way: it stays, whatever becomes of a neighbour at its address.
	diffs(t, tables(routes(local(1)), neighs(neigh(1, 1)), fdbs(fdb(1))), tables(routes(local(1)), neighs(neigh(1, 4)), fdbs(fdb(4))),
		delNeigh(neigh(1, 1)), delFdb(fdb(1)), putFdb(fdb(4)), putNeigh(neigh(1, 4)))
	at0 := api.Neigh{IP: 0, MAC: mac(3)}
	diffs(t, tables(routes(local(1)), neighs(at0), nil), tables(routes(local(1)), nil, nil), delNeigh(at0))
}

// A way that is missing alike lets a route stay; one that is missing on one side alone does not.
func TestP16_2WayMissing(t *testing.T) {
	none := tables(routes(away(1)), nil, nil)
	half := tables(routes(away(1)), neighs(neigh(1, 1)), nil)
	whole := tables(routes(away(1)), neighs(neigh(1, 1)), fdbs(fdb(1)))
	diffs(t, none, none)
	diffs(t, half, half)
	diffs(t, none, half, delRoute(away(1)), putNeigh(neigh(1, 1)), putRoute(away(1)))
	diffs(t, none, whole, delRoute(away(1)), putFdb(fdb(1)), putNeigh(neigh(1, 1)), putRoute(away(1)))
	diffs(t, half, whole, delRoute(away(1)), putFdb(fdb(1)), putRoute(away(1)))
	diffs(t, half, none, delRoute(away(1)), delNeigh(neigh(1, 1)), putRoute(away(1)))
	diffs(t, whole, none, delRoute(away(1)), delNeigh(neigh(1, 1)), delFdb(fdb(1)), putRoute(away(1)))
	diffs(t, whole, half, delRoute(away(1)), delFdb(fdb(1)), putRoute(away(1)))
	// Without its neighbour a route leads to no entry, though one of the MAC zero may be there.
	zero := api.Fdb{To: 5}
	diffs(t, tables(routes(away(1)), nil, fdbs(zero)), none, delFdb(zero))
	diffs(t, none, tables(routes(away(1)), nil, fdbs(zero)), putFdb(zero))
	// An entry that is missing is not one that leads to 0, and a neighbour that is missing not one at the MAC zero.
	blank := tables(routes(away(1)), neighs(api.Neigh{IP: base(1)}), fdbs(api.Fdb{}))
	diffs(t, tables(routes(away(1)), neighs(api.Neigh{IP: base(1)}), nil), blank, delRoute(away(1)), putFdb(api.Fdb{}), putRoute(away(1)))
	root := api.Route{Dst: api.Prefix{Addr: 0, Len: 8}}
	diffs(t, tables(routes(root), nil, nil), tables(routes(root), neighs(api.Neigh{}), nil), delRoute(root), putNeigh(api.Neigh{}), putRoute(root))
	diffs(t, tables(routes(root), neighs(api.Neigh{}), nil), tables(routes(root), neighs(api.Neigh{}), fdbs(api.Fdb{})), delRoute(root), putFdb(api.Fdb{}), putRoute(root))
}

// Routes that share a neighbour, or neighbours that share an entry: all of them go when it changes, and none when it stays.
func TestP16_2Shared(t *testing.T) {
	by := func(k int) api.Route { return api.Route{Dst: sub(k), Via: base(9)} }
	have := tables(routes(by(1), by(2), away(3)), neighs(neigh(3, 5), neigh(9, 5)), fdbs(fdb(5)))
	moved := api.Fdb{MAC: mac(5), To: 1}
	diffs(t, have, tables(have.Routes, have.Neighs, fdbs(moved)),
		delRoute(by(1)), delRoute(by(2)), delRoute(away(3)), delFdb(fdb(5)), putFdb(moved), putRoute(by(1)), putRoute(by(2)), putRoute(away(3)))
	diffs(t, have, tables(have.Routes, neighs(neigh(3, 5), neigh(9, 6)), fdbs(fdb(5), fdb(6))),
		delRoute(by(1)), delRoute(by(2)), delNeigh(neigh(9, 5)), putFdb(fdb(6)), putNeigh(neigh(9, 6)), putRoute(by(1)), putRoute(by(2)))
	diffs(t, have, tables(routes(by(1), away(3)), have.Neighs, have.Fdbs), delRoute(by(2)))
	diffs(t, have, tables(routes(by(1), by(2)), neighs(neigh(9, 5)), have.Fdbs), delRoute(away(3)), delNeigh(neigh(3, 5)))
	diffs(t, have, tables(routes(by(1), by(2), away(3), by(4)), have.Neighs, have.Fdbs), putRoute(by(4)))
}

// The values of entries may be anything, and so may be what is in order by its keys.
func TestP16_2AnyValues(t *testing.T) {
	odd := tables(
		routes(api.Route{Dst: api.Prefix{}, Via: math.MaxUint32, Local: true}, api.Route{Dst: api.Prefix{Addr: 0, Len: 1}, Via: 3}, api.Route{Dst: api.Prefix{Addr: math.MaxUint32, Len: 32}}),
		neighs(api.Neigh{}, api.Neigh{IP: math.MaxUint32, MAC: api.MAC{255, 255, 255, 255, 255, 255}}),
		fdbs(api.Fdb{}, api.Fdb{MAC: api.MAC{0, 255}, To: 1}, api.Fdb{MAC: api.MAC{1}}, api.Fdb{MAC: api.MAC{255, 255, 255, 255, 255, 255}, To: math.MaxUint32}))
	diffs(t, odd, odd)
	diffs(t, api.Tables{}, odd, putFdb(odd.Fdbs[0]), putFdb(odd.Fdbs[1]), putFdb(odd.Fdbs[2]), putFdb(odd.Fdbs[3]),
		putNeigh(odd.Neighs[0]), putNeigh(odd.Neighs[1]), putRoute(odd.Routes[0]), putRoute(odd.Routes[1]), putRoute(odd.Routes[2]))
	diffs(t, odd, api.Tables{}, delRoute(odd.Routes[0]), delRoute(odd.Routes[1]), delRoute(odd.Routes[2]),
		delNeigh(odd.Neighs[0]), delNeigh(odd.Neighs[1]), delFdb(odd.Fdbs[0]), delFdb(odd.Fdbs[1]), delFdb(odd.Fdbs[2]), delFdb(odd.Fdbs[3]))
}

// unordered is tables of which each is out of order in one place.
func unordered() []api.Tables {
	r := func(addr api.Addr, n int) api.Route { return api.Route{Dst: api.Prefix{Addr: addr, Len: n}} }
	f := func(bytes ...byte) api.Fdb { return api.Fdb{MAC: api.MAC(append(bytes, 0, 0, 0, 0, 0, 0)[:6])} }
	return []api.Tables{
		tables(routes(away(2), away(1)), nil, nil),
		tables(routes(away(1), away(1)), nil, nil),
		tables(routes(away(1), local(1)), nil, nil),
		tables(routes(away(1), away(2), away(3), away(3)), nil, nil),
		tables(routes(away(1), away(3), away(2), away(4)), nil, nil),
		tables(routes(r(base(4), 24), r(base(4), 22)), nil, nil),
		tables(routes(r(base(4), 24), r(0, 24)), nil, nil),
		tables(routes(r(200<<24, 8), r(100<<24, 8)), nil, nil),
		tables(routes(r(1, 24)), nil, nil),
		tables(routes(r(base(4), 21)), nil, nil),
		tables(routes(r(0, 33)), nil, nil),
		tables(routes(r(0, -1)), nil, nil),
		tables(routes(r(0, 64)), nil, nil),
		tables(routes(r(0, math.MinInt)), nil, nil),
		tables(routes(r(0, math.MaxInt)), nil, nil),
		tables(routes(away(1), api.Route{Dst: api.Prefix{Addr: base(2) + 1, Len: 24}, Local: true}), nil, nil),
		tables(routes(away(1), away(2), r(base(3), 33)), nil, nil),
		tables(nil, neighs(neigh(2, 1), neigh(1, 1)), nil),
		tables(nil, neighs(neigh(1, 1), neigh(1, 1)), nil),
		tables(nil, neighs(neigh(1, 1), neigh(1, 2)), nil),
		tables(nil, neighs(neigh(1, 1), neigh(2, 1), neigh(4, 1), neigh(3, 1)), nil),
		tables(nil, neighs(api.Neigh{IP: 200 << 24}, api.Neigh{IP: 100 << 24}), nil),
		tables(nil, nil, fdbs(fdb(2), fdb(1))),
		tables(nil, nil, fdbs(fdb(1), fdb(1))),
		tables(nil, nil, fdbs(fdb(1), api.Fdb{MAC: mac(1), To: 77})),
		tables(nil, nil, fdbs(f(1), f(0, 255))),
		tables(nil, nil, fdbs(f(128), f(127))),
		tables(nil, nil, fdbs(f(0, 0, 0, 0, 1), f(0, 0, 0, 0, 0, 2))),
		tables(nil, nil, fdbs(fdb(1), fdb(2), fdb(3), fdb(3))),
		tables(routes(away(1)), neighs(neigh(1, 1)), fdbs(fdb(9), fdb(8))),
	}
}

func TestP16_2OutOfOrder(t *testing.T) {
	for i, bad := range unordered() {
		if isOrdered(bad) {
			t.Fatalf("row %d is in order", i)
		}
		for _, good := range []api.Tables{{}, full(), bad} {
			if ops, err := Diff(bad, good); err != api.ErrTables || len(ops) != 0 {
				t.Errorf("P16.2: row %d as have: %+v, %d", i, ops, err)
			}
			if ops, err := Diff(good, bad); err != api.ErrTables || len(ops) != 0 {
				t.Errorf("P16.2: row %d as want: %+v, %d", i, ops, err)
			}
		}
	}
}

// anyTables is tables in order of few keys, so that two of them have much in common.
func anyTables(r *rand.Rand) api.Tables {
	l := empty()
	for range r.Intn(6) {
		k := r.Intn(5)
		l.do(putRoute([]api.Route{local(k), away(k), away(k), {Dst: sub(k), Via: base(r.Intn(5))}, {Dst: api.Prefix{Addr: base(k &^ 3), Len: 22}, Via: base(k)}, {Dst: sub(k), Via: 1, Local: true}}[r.Intn(6)]))
	}
	for range r.Intn(6) {
		l.do(putNeigh(neigh(r.Intn(5), r.Intn(4))))
	}
	for range r.Intn(6) {
		l.do(putFdb(api.Fdb{MAC: mac(r.Intn(4)), To: pub(r.Intn(2))}))
	}
	return l.tables()
}

// wholeTables is tables whose routes that are not local all lead somewhere.
func wholeTables(r *rand.Rand) api.Tables {
	for {
		t := anyTables(r)
		if l := layOf(t); l.isWhole() {
			return t
		}
	}
}

// Tables by dice, against the model.
func TestP16_2Any(t *testing.T) {
	r := dice()
	for range 20000 {
		have, want := anyTables(r), anyTables(r)
		got, err := Diff(have, want)
		if model := diffed(layOf(have), layOf(want)); err != api.OK || !slices.Equal(got, model) {
			t.Fatalf("P16.2: Diff(%+v, %+v) = %+v, %d, want %+v", have, want, got, err, model)
		}
	}
}

// follow carries changes out one by one, and holds what the chapter says of every point between.
func follow(t *testing.T, have, want api.Tables) {
	t.Helper()
	l := layOf(have)
	whole := l.isWhole() && layOf(want).isWhole()
	ops, _ := Diff(have, want)
	for i, op := range ops {
		l.do(op)
		if len(l.routes) > max(len(have.Routes), len(want.Routes)) || len(l.neighs) > max(len(have.Neighs), len(want.Neighs)) || len(l.fdbs) > max(len(have.Fdbs), len(want.Fdbs)) {
			t.Fatalf("P16.2: behind %d of %+v a table holds too much: %+v", i+1, ops, l.tables())
		}
		if whole && !l.isWhole() {
			t.Fatalf("P16.2: behind %d of %+v a route leads nowhere: %+v", i+1, ops, l.tables())
		}
		rest, err := Diff(l.tables(), want)
		if err != api.OK || !slices.Equal(rest, ops[i+1:]) {
			t.Fatalf("P16.2: behind %d of %+v Diff = %+v, %d", i+1, ops, rest, err)
		}
	}
	if !sameTables(l.tables(), want) {
		t.Fatalf("P16.2: %+v lead from %+v to %+v, not to %+v", ops, have, l.tables(), want)
	}
}

func TestP16_2OneByOne(t *testing.T) {
	r := dice()
	for range 3000 {
		follow(t, anyTables(r), anyTables(r))
		follow(t, wholeTables(r), wholeTables(r))
	}
}

// Many entries of each kind.
func TestP16_2Many(t *testing.T) {
	var x, y []api.Lease
	for k := range 4000 {
		l := api.Lease{Host: k % 3, Subnet: api.Prefix{Addr: api.Addr(k) << 8, Len: 24}, MAC: api.MAC{byte(k >> 8), byte(k)}, Pub: 1}
		if k%5 > 0 {
			x = append(x, l)
		}
		if k%7 == 0 {
			l.Pub = 2
		}
		if k%3 > 0 {
			y = append(y, l)
		}
	}
	have, want := Plan(x, me), Plan(y, me)
	got, err := Diff(have, want)
	if model := diffed(layOf(have), layOf(want)); err != api.OK || !slices.Equal(got, model) {
		t.Errorf("P16.2: %d changes, %d, want %d", len(got), err, len(model))
	}
}

// What is handed in stays as it was, its spare room too; what is answered is the caller's own.
func TestP16_13Diff(t *testing.T) {
	r := dice()
	for range 500 {
		have, want := anyTables(r), anyTables(r)
		h, w := roomy(have), roomy(want)
		hWas, wWas := wholeRoom(h), wholeRoom(w)
		one, _ := Diff(h, w)
		two, _ := Diff(h, w)
		was := slices.Clone(two)
		if !sameTables(wholeRoom(h), hWas) || !sameTables(wholeRoom(w), wWas) {
			t.Fatalf("P16.13: Diff changed what it was handed")
		}
		spoilOps(one)
		spoilTables(h)
		spoilTables(w)
		if !slices.Equal(two, was) {
			t.Fatalf("P16.13: another answer became %+v", two)
		}
	}
}

package tables

import (
	"math"
	"slices"
	"testing"

	"weft/api"
)

func TestP9_2NoOp(t *testing.T) {
	k, m := crowded(t, 2, 2, 2)
	for _, ops := range [][]api.Op{nil, {}, make([]api.Op, 0, 5)} {
		if n, e := k.Do(ops...); n != 0 || e != api.OK {
			t.Errorf("Do of no op = %d, %d", n, e)
		}
	}
	if n, e := k.Do(); n != 0 || e != api.OK {
		t.Errorf("Do() = %d, %d", n, e)
	}
	check(t, k, m)
}

// Each kind changes its own table, and no other one.
func TestP9_2EachKind(t *testing.T) {
	k, m := made(t, 4, 4, 4)
	r := api.Route{Dst: net(t, "10.1.0.0/16"), Via: 5}
	n := api.Neigh{IP: 5, MAC: api.MAC{1}}
	f := api.Fdb{MAC: api.MAC{1}, To: 7}
	has := func(routes []api.Route, neighs []api.Neigh, fdbs []api.Fdb) {
		t.Helper()
		if d := k.Dump(); !sameTables(d, api.Tables{Routes: routes, Neighs: neighs, Fdbs: fdbs}) {
			t.Errorf("%v, want %v, %v, %v", d, routes, neighs, fdbs)
		}
		check(t, k, m)
	}
	done(t, k, m, api.Op{Kind: 1, Route: r, Neigh: n, Fdb: f})
	has([]api.Route{r}, nil, nil)
	done(t, k, m, api.Op{Kind: 3, Route: r, Neigh: n, Fdb: f})
	has([]api.Route{r}, []api.Neigh{n}, nil)
	done(t, k, m, api.Op{Kind: 5, Route: r, Neigh: n, Fdb: f})
	has([]api.Route{r}, []api.Neigh{n}, []api.Fdb{f})
	done(t, k, m, api.Op{Kind: 4, Route: r, Neigh: n, Fdb: f})
	has([]api.Route{r}, nil, []api.Fdb{f})
	done(t, k, m, api.Op{Kind: 2, Route: r, Neigh: n, Fdb: f})
	has(nil, nil, []api.Fdb{f})
	done(t, k, m, api.Op{Kind: 6, Route: r, Neigh: n, Fdb: f})
	has(nil, nil, nil)
}

func TestP9_2WrongKinds(t *testing.T) {
	for _, kind := range wrongKinds() {
		for _, full := range []bool{false, true} {
			k, m := made(t, 2, 2, 2)
			if full {
				k, m = crowded(t, 2, 2, 2)
			}
			for i := range 4 {
				for _, op := range puts(i) {
					op.Kind = kind
					refused(t, k, m, 0, api.ErrOp, op)
				}
			}
			refused(t, k, m, 0, api.ErrOp, api.Op{Kind: kind})
			check(t, k, m)
		}
	}
}

// A prefix that is not valid is refused, of Put and of Del, in empty and in full tables: ErrOp is ahead of ErrFull.
func TestP9_2WrongPrefixes(t *testing.T) {
	for _, rooms := range []int{1, 3} {
		empty, none := made(t, rooms, 1, 1)
		k, m := crowded(t, rooms, 1, 1)
		for _, p := range wrong() {
			for _, op := range []api.Op{putVia(p, 0), putVia(p, 77), putLocal(p), delRoute(p)} {
				refused(t, k, m, 0, api.ErrOp, op)
				refused(t, empty, none, 0, api.ErrOp, op)
			}
			both := putLocal(p)
			both.Route.Via = 1
			refused(t, k, m, 0, api.ErrOp, both)
			refused(t, empty, none, 0, api.ErrOp, both)
		}
		check(t, k, m)
		check(t, empty, none)
	}
}

func TestP9_2LocalAndVia(t *testing.T) {
	k, m := made(t, 2, 1, 1)
	p := net(t, "10.1.2.0/24")
	for _, via := range []api.Addr{1, 1 << 31, p.Addr, math.MaxUint32, 256} {
		op := putLocal(p)
		op.Route.Via = via
		refused(t, k, m, 0, api.ErrOp, op)
		done(t, k, m, putVia(p, via))
		refused(t, k, m, 0, api.ErrOp, op)
		check(t, k, m)
		done(t, k, m, delRoute(p))
	}
	done(t, k, m, putLocal(p))
	check(t, k, m)
	done(t, k, m, putVia(p, 0))
	check(t, k, m)
	if d := k.Dump(); len(d.Routes) != 1 || d.Routes[0] != (api.Route{Dst: p}) {
		t.Errorf("a route via 0.0.0.0 is not local: %v", d.Routes)
	}
	done(t, k, m, putLocal(net(t, "10.2.0.0/16")))
	both := putLocal(net(t, "10.3.0.0/16"))
	both.Route.Via = 1
	refused(t, k, m, 0, api.ErrOp, both)
	check(t, k, m)
}

// noise fills the fields of an op that its kind's line does not name, with what another line would refuse.
func noise(op api.Op) api.Op {
	bad := api.Route{Dst: api.Prefix{Addr: 1, Len: 99}, Via: 1, Local: true}
	neigh := api.Neigh{IP: 0xabcdef01, MAC: api.MAC{9, 9, 9, 9, 9, 9}}
	fdb := api.Fdb{MAC: api.MAC{8, 8, 8, 8, 8, 8}, To: 0x12345678}
	switch op.Kind {
	case api.PutRoute:
		op.Neigh, op.Fdb = neigh, fdb
	case api.DelRoute:
		op.Route.Via, op.Route.Local, op.Neigh, op.Fdb = op.Route.Via^0xffff, true, neigh, fdb
	case api.PutNeigh:
		op.Route, op.Fdb = bad, fdb
	case api.DelNeigh:
		op.Route, op.Fdb, op.Neigh.MAC = bad, fdb, neigh.MAC
	case api.PutFdb:
		op.Route, op.Neigh = bad, neigh
	case api.DelFdb:
		op.Route, op.Neigh, op.Fdb.To = bad, neigh, fdb.To
	}
	return op
}

// What an op's line does not name is not looked at: two kernels, one of them told with noise, are the same.
func TestP9_2FieldsNotNamed(t *testing.T) {
	k, m := made(t, 3, 3, 3)
	loud, n := made(t, 3, 3, 3)
	step := func(op api.Op) {
		t.Helper()
		do(t, k, m, op)
		do(t, loud, n, noise(op))
		if x, y := k.Dump(), loud.Dump(); !sameTables(x, y) {
			t.Fatalf("behind %v: %v, and with noise %v", op, x, y)
		}
		check(t, loud, n)
	}
	for i := range 4 {
		for _, op := range puts(i) {
			step(op)
		}
	}
	for i := range 5 {
		for _, op := range puts(i) {
			step(taken(op))
		}
	}
	if d := loud.Dump(); len(d.Routes)+len(d.Neighs)+len(d.Fdbs) != 0 {
		t.Errorf("left: %v", d)
	}
}

// A Put of a key that is there replaces the entry, whether there is room or not.
func TestP9_2PutReplaces(t *testing.T) {
	for _, rooms := range [][3]int{{3, 3, 3}, {4, 4, 4}, {1, 1, 1}} {
		k, m := made(t, rooms[0], rooms[1], rooms[2])
		for i := range min(3, rooms[0]) {
			done(t, k, m, puts(i)...)
		}
		before := k.Dump()
		for i := range min(3, rooms[0]) {
			for _, op := range puts(i) {
				done(t, k, m, other(op), other(other(op)), other(op))
				check(t, k, m)
			}
		}
		after := k.Dump()
		if len(after.Routes) != len(before.Routes) || len(after.Neighs) != len(before.Neighs) || len(after.Fdbs) != len(before.Fdbs) {
			t.Errorf("%v became %v", before, after)
		}
		for i, r := range after.Routes {
			if r.Dst != before.Routes[i].Dst || r.Via != before.Routes[i].Via+1 {
				t.Errorf("%v became %v", before.Routes[i], r)
			}
		}
		for i, n := range after.Neighs {
			if n.IP != before.Neighs[i].IP || n.MAC[5] != before.Neighs[i].MAC[5]+1 {
				t.Errorf("%v became %v", before.Neighs[i], n)
			}
		}
		for i, f := range after.Fdbs {
			if f.MAC != before.Fdbs[i].MAC || f.To != before.Fdbs[i].To+1 {
				t.Errorf("%v became %v", before.Fdbs[i], f)
			}
		}
	}
}

// A Put of what is there as it is, and a Del of what is not there, count and change nothing.
func TestP9_2NothingToDo(t *testing.T) {
	for _, rooms := range []int{3, 4, 256} {
		k, m := made(t, rooms, rooms, rooms)
		for i := range 3 {
			done(t, k, m, puts(i)...)
		}
		before := k.Dump()
		for i := range 3 {
			done(t, k, m, slices.Concat(puts(i), puts(i))...)
		}
		for i := 3; i < 10; i++ {
			for _, op := range puts(i) {
				done(t, k, m, taken(op), taken(op), taken(op))
			}
		}
		if after := k.Dump(); !sameTables(before, after) {
			t.Errorf("%v became %v", before, after)
		}
		check(t, k, m)
	}
	k, m := made(t, 1, 1, 1)
	done(t, k, m, delRoute(api.Prefix{}), delNeigh(0), delFdb(api.MAC{}))
	check(t, k, m)
}

// The key is the address and the length: each of the 33 prefixes of an address is one of its own.
func TestP9_2RoutesOfOneAddress(t *testing.T) {
	k, m := made(t, 33, 1, 1)
	for n := range 33 {
		done(t, k, m, putVia(api.Prefix{Len: n}, api.Addr(n)))
	}
	check(t, k, m)
	refused(t, k, m, 0, api.ErrFull, putVia(net(t, "1.0.0.0/8"), 1))
	for n := range 33 {
		done(t, k, m, putVia(api.Prefix{Len: n}, api.Addr(n)+100))
		check(t, k, m, 0)
	}
	for _, n := range []int{16, 0, 32, 15, 17, 31, 1} {
		done(t, k, m, delRoute(api.Prefix{Len: n}))
		check(t, k, m, 0)
	}
}

func TestP9_2DelByKey(t *testing.T) {
	k, m := made(t, 4, 4, 4)
	p := net(t, "10.1.2.0/24")
	done(t, k, m, putLocal(p), putNeigh(5, api.MAC{5}), putFdb(api.MAC{5}, 6))
	done(t, k, m, putVia(net(t, "10.1.2.0/25"), 3), putVia(net(t, "10.1.2.0/23"), 3), putVia(net(t, "10.1.3.0/24"), 3))
	done(t, k, m, putNeigh(6, api.MAC{5}), putFdb(api.MAC{0, 0, 0, 0, 0, 5}, 6))
	done(t, k, m, api.Op{Kind: api.DelRoute, Route: api.Route{Dst: p, Via: 9}})
	check(t, k, m, p.Addr)
	done(t, k, m, api.Op{Kind: api.DelNeigh, Neigh: api.Neigh{IP: 5, MAC: api.MAC{6}}})
	check(t, k, m, p.Addr)
	done(t, k, m, api.Op{Kind: api.DelFdb, Fdb: api.Fdb{MAC: api.MAC{5}, To: 7}})
	check(t, k, m, p.Addr)
	if d := k.Dump(); len(d.Routes) != 3 || len(d.Neighs) != 1 || len(d.Fdbs) != 1 {
		t.Errorf("%v", d)
	}
}

// A full table: what is new is refused till one goes, and then one has room.
func TestP9_2FullAndBack(t *testing.T) {
	for _, room := range []int{1, 2, 5, 256} {
		k, m := crowded(t, room, room, room)
		for table := range 3 {
			fresh, first, last := puts(1000)[table], puts(0)[table], puts(room - 1)[table]
			refused(t, k, m, 0, api.ErrFull, fresh)
			done(t, k, m, taken(first), fresh)
			refused(t, k, m, 0, api.ErrFull, first)
			done(t, k, m, other(fresh))
			refused(t, k, m, 1, api.ErrFull, taken(first), first)
			done(t, k, m, taken(fresh), taken(fresh), first)
			refused(t, k, m, 0, api.ErrFull, fresh)
			refused(t, k, m, 1, api.ErrFull, last, fresh)
		}
		check(t, k, m)
	}
}

// A table that is full has nothing to say of the two others.
func TestP9_2FullAlone(t *testing.T) {
	for table := range 3 {
		rooms := [3]int{3, 3, 3}
		rooms[table] = 1
		k, m := made(t, rooms[0], rooms[1], rooms[2])
		done(t, k, m, puts(0)...)
		refused(t, k, m, table, api.ErrFull, puts(1)...)
		for i := range 3 {
			if i != table {
				done(t, k, m, puts(1)[i], puts(2)[i])
				refused(t, k, m, 0, api.ErrFull, puts(3)[i])
			}
		}
		check(t, k, m)
	}
}

// A batch stops at the first op that is refused: what is ahead of it stays done, and what is behind it is not looked at.
func TestP9_2Batches(t *testing.T) {
	good := []api.Op{}
	for i := range 4 {
		good = append(good, puts(i)...)
	}
	full, noKind := puts(9)[1], api.Op{Kind: 7}
	badDst := putVia(api.Prefix{Addr: 1, Len: 8}, 0)
	badDel := delRoute(api.Prefix{Len: 33})
	for place := range len(good) + 1 {
		for _, bad := range []api.Op{noKind, badDst, badDel} {
			k, m := made(t, 4, 4, 4)
			refused(t, k, m, place, api.ErrOp, slices.Insert(slices.Clone(good), place, bad)...)
			check(t, k, m)
			d := k.Dump()
			if len(d.Routes)+len(d.Neighs)+len(d.Fdbs) != place {
				t.Errorf("refused at %d: %v", place, d)
			}
		}
	}
	k, m := made(t, 4, 4, 4)
	refused(t, k, m, 12, api.ErrFull, append(slices.Clone(good), full)...)
	refused(t, k, m, 0, api.ErrFull, append([]api.Op{full, taken(good[0])}, noKind)...)
	refused(t, k, m, 1, api.ErrFull, taken(good[0]), full, taken(good[3]))
	refused(t, k, m, 2, api.ErrOp, taken(good[1]), full, badDst, full)
	check(t, k, m)
}

// Ops of one batch see what those ahead of them have done.
func TestP9_2OneBehindTheOther(t *testing.T) {
	k, m := made(t, 1, 1, 1)
	p, q := net(t, "10.0.0.0/8"), net(t, "11.0.0.0/8")
	done(t, k, m, putVia(p, 1), delRoute(p), putVia(q, 2), putVia(q, 3), delRoute(q), putLocal(p))
	check(t, k, m, p.Addr, q.Addr)
	done(t, k, m, putNeigh(1, api.MAC{1}), delNeigh(1), putNeigh(2, api.MAC{2}), putFdb(api.MAC{1}, 1), putFdb(api.MAC{1}, 2), delFdb(api.MAC{1}), putFdb(api.MAC{2}, 9))
	check(t, k, m)
	if d := k.Dump(); !sameTables(d, api.Tables{Routes: []api.Route{{Dst: p, Local: true}}, Neighs: []api.Neigh{{IP: 2, MAC: api.MAC{2}}}, Fdbs: []api.Fdb{{MAC: api.MAC{2}, To: 9}}}) {
		t.Errorf("%v", d)
	}
}

// A batch has no bound.
func TestP9_2ManyOps(t *testing.T) {
	k, m := made(t, 5, 5, 5)
	var ops []api.Op
	for i := range 10000 {
		for _, op := range puts(i % 7) {
			ops = append(ops, op, taken(op))
		}
	}
	done(t, k, m, ops...)
	check(t, k, m)
	refused(t, k, m, len(ops), api.ErrOp, append(ops, api.Op{})...)
}

// The keys at the ends: the zero address and hardware address are keys like any other.
func TestP9_2KeysAtTheEnds(t *testing.T) {
	k, m := made(t, 4, 4, 4)
	ends := []api.Addr{0, 1, math.MaxUint32 - 1, math.MaxUint32}
	macs := []api.MAC{{}, {0, 0, 0, 0, 0, 1}, {255, 255, 255, 255, 255, 254}, {255, 255, 255, 255, 255, 255}}
	for i, a := range ends {
		done(t, k, m, putVia(api.Prefix{Addr: a, Len: 32}, a), putNeigh(a, macs[i]), putFdb(macs[i], a))
		check(t, k, m, ends...)
	}
	refused(t, k, m, 0, api.ErrFull, putLocal(api.Prefix{}))
	for i, a := range ends {
		done(t, k, m, delRoute(api.Prefix{Addr: a, Len: 32}), delNeigh(a), delFdb(macs[i]))
		check(t, k, m, ends...)
	}
}

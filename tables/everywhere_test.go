package tables

import (
	"math"
	"math/rand"
	"reflect"
	"slices"
	"sync"
	"testing"

	"weft/api"
)

// The chapter's examples, step by step.
func TestP9_2Examples(t *testing.T) {
	k, m := made(t, 2, 1, 1)
	wide, narrow := net(t, "10.1.0.0/16"), net(t, "10.1.2.0/24")
	one, two := mac(t, "02:00:00:00:00:01"), mac(t, "02:00:00:00:00:02")
	resolves(t, k, "10.1.2.3", api.Hop{}, api.ErrRoute)
	done(t, k, m, putVia(wide, wide.Addr), putVia(narrow, narrow.Addr))
	done(t, k, m, putLocal(narrow))
	resolves(t, k, "10.1.2.3", api.Hop{Local: true, Dst: narrow}, api.OK)
	resolves(t, k, "10.1.3.3", api.Hop{}, api.ErrNeigh)
	done(t, k, m, putNeigh(wide.Addr, one))
	resolves(t, k, "10.1.3.3", api.Hop{}, api.ErrFdb)
	refused(t, k, m, 1, api.ErrFull, putFdb(one, at(t, "192.0.2.1")), putFdb(two, at(t, "192.0.2.2")), delFdb(one))
	hop := api.Hop{Dst: wide, Via: wide.Addr, MAC: one, To: at(t, "192.0.2.1")}
	resolves(t, k, "10.1.3.3", hop, api.OK)
	refused(t, k, m, 1, api.ErrFull, delRoute(net(t, "10.9.0.0/16")), putLocal(net(t, "10.9.0.0/16")))
	refused(t, k, m, 0, api.ErrOp, api.Op{Kind: api.PutRoute, Route: api.Route{Dst: narrow, Via: narrow.Addr, Local: true}})
	refused(t, k, m, 0, api.ErrOp, putVia(api.Prefix{Addr: at(t, "10.1.2.3"), Len: 24}, 0))
	check(t, k, m)
	done(t, k, m, delRoute(narrow))
	resolves(t, k, "10.1.2.3", hop, api.OK)
	k.Flush()
	if d := k.Dump(); len(d.Routes)+len(d.Neighs)+len(d.Fdbs) != 0 {
		t.Errorf("behind Flush: %v", d)
	}
}

// anyOp rolls an op out of few keys, so that they meet, and now and then one out of all numbers.
func anyOp(r *rand.Rand) api.Op {
	few := func() api.Addr { return api.Addr(r.Intn(5)) }
	op := api.Op{
		Kind:  1 + r.Intn(6),
		Route: api.Route{Dst: cut(few()<<30|few(), []int{0, 1, 2, 29, 30, 31, 32}[r.Intn(7)]), Via: few(), Local: r.Intn(4) == 0},
		Neigh: api.Neigh{IP: few(), MAC: api.MAC{byte(r.Intn(3)), 0, 0, 0, 0, byte(r.Intn(2))}},
		Fdb:   api.Fdb{MAC: api.MAC{byte(r.Intn(3)), 0, 0, 0, 0, byte(r.Intn(2))}, To: few()},
	}
	if op.Route.Local && r.Intn(4) > 0 {
		op.Route.Via = 0
	}
	switch r.Intn(40) {
	case 0:
		op.Kind = wrongKinds()[r.Intn(len(wrongKinds()))]
	case 1:
		op.Route.Dst = wrong()[r.Intn(len(wrong()))]
	case 2:
		op.Kind = int(r.Uint64())
		op.Route.Dst = api.Prefix{Addr: api.Addr(r.Uint32()), Len: int(r.Uint64())}
	case 3:
		op.Route = api.Route{Dst: cut(api.Addr(r.Uint32()), r.Intn(33)), Via: api.Addr(r.Uint32())}
	}
	return op
}

// Steps by dice: batches, questions and now and then a Flush, against the model.
func TestP0_1AnySteps(t *testing.T) {
	r := dice()
	asked := []api.Addr{0, 1, 2, 3, 4, 5, 1 << 30, 1<<30 + 3, 1 << 31, 3<<30 | 2, math.MaxUint32}
	for range 400 {
		k, m := made(t, 1+r.Intn(8), 1+r.Intn(6), 1+r.Intn(6))
		for range 60 {
			var ops []api.Op
			for range r.Intn(5) {
				ops = append(ops, anyOp(r))
			}
			do(t, k, m, ops...)
			check(t, k, m, asked...)
			if r.Intn(30) == 0 {
				k.Flush()
				m.flush()
				check(t, k, m, asked...)
			}
		}
	}
}

// Each pair of ops out of a small set, in a kernel of each small size, and then each one more.
func TestP0_1EveryPair(t *testing.T) {
	var ops []api.Op
	for i := range 2 {
		for _, op := range puts(i) {
			ops = append(ops, op, other(op), taken(op))
		}
	}
	bad := putLocal(api.Prefix{})
	bad.Route.Via = 1
	ops = append(ops, putLocal(api.Prefix{}), bad, api.Op{}, delRoute(api.Prefix{Len: 40}))
	for _, x := range ops {
		for _, y := range ops {
			for _, z := range ops {
				for _, room := range []int{1, 2} {
					k, m := made(t, room, room, room)
					do(t, k, m, x, y)
					do(t, k, m, z, x)
					check(t, k, m, 0)
				}
			}
		}
	}
}

// Beside an error of Resolve stands the zero Hop; a Do that is refused at once changes nothing.
func TestP0_2ZeroBesideErrors(t *testing.T) {
	k, m := crowded(t, 3, 3, 3)
	done(t, k, m, taken(puts(0)[0]), putVia(net(t, "77.0.0.0/8"), 999))
	for _, s := range []string{"77.1.2.3", "78.0.0.0"} {
		if h, e := k.Resolve(at(t, s)); h != (api.Hop{}) || e == api.OK {
			t.Errorf("Resolve(%s) = %v, %d", s, h, e)
		}
	}
	before := k.Dump()
	for _, op := range []api.Op{puts(50)[0], puts(50)[1], puts(50)[2], {}, delRoute(api.Prefix{Len: -1})} {
		if n, e := k.Do(op); n != 0 || e == api.OK {
			t.Errorf("Do(%v) = %d, %d", op, n, e)
		}
	}
	if after := k.Dump(); !sameTables(before, after) {
		t.Errorf("%v became %v", before, after)
	}
	if k, e := New(1, 0, 1); k != nil || e != api.ErrArg {
		t.Errorf("New(1, 0, 1) = %v, %d", k, e)
	}
}

// The ops are the caller's: they stay as they were, their spare room too, and what is written into them later is not seen.
func TestP0_3OpsAreNotKept(t *testing.T) {
	k, m := made(t, 4, 4, 4)
	room := make([]api.Op, 0, 12)
	for i := range 3 {
		room = append(room, puts(i)...)
	}
	room = append(room, api.Op{Kind: 77}, puts(9)[0], puts(9)[1])
	ops := room[:9]
	was := slices.Clone(room)
	done(t, k, m, ops...)
	if !slices.Equal(room, was) {
		t.Fatalf("%v became %v", was, room)
	}
	for i := range room {
		room[i] = other(other(room[len(room)-1-i]))
	}
	checkDump(t, k, m)
	was = slices.Clone(room)
	do(t, k, m, room...)
	if !slices.Equal(room, was) {
		t.Fatalf("%v became %v", was, room)
	}
	checkDump(t, k, m)
}

// scribble writes over all of a Dump, its spare room too, and appends to it.
func scribble(d api.Tables) {
	routes, neighs, fdbs := d.Routes[:cap(d.Routes)], d.Neighs[:cap(d.Neighs)], d.Fdbs[:cap(d.Fdbs)]
	for i := range routes {
		routes[i] = api.Route{Dst: api.Prefix{Addr: 99, Len: 99}, Via: 99, Local: true}
	}
	for i := range neighs {
		neighs[i] = api.Neigh{IP: 99, MAC: api.MAC{99}}
	}
	for i := range fdbs {
		fdbs[i] = api.Fdb{MAC: api.MAC{99}, To: 99}
	}
	_ = append(d.Routes, api.Route{Via: 98})
	_ = append(d.Neighs, api.Neigh{IP: 98})
	_ = append(d.Fdbs, api.Fdb{To: 98})
}

// clone is a copy that shares nothing.
func clone(d api.Tables) api.Tables {
	return api.Tables{Routes: slices.Clone(d.Routes), Neighs: slices.Clone(d.Neighs), Fdbs: slices.Clone(d.Fdbs)}
}

// A Dump is the caller's own: neither the kernel nor another Dump, from ahead or from behind, sees what is written into it.
func TestP9_6DumpIsNewMemory(t *testing.T) {
	for _, room := range []int{1, 2, 3, 5, 8, 100, 256} {
		k, m := crowded(t, room, room, room)
		ahead := k.Dump()
		want := clone(ahead)
		d := k.Dump()
		behind := k.Dump()
		scribble(d)
		for _, x := range []api.Tables{ahead, behind, k.Dump()} {
			if !sameTables(x, want) {
				t.Fatalf("another Dump became %v", x)
			}
		}
		check(t, k, m)
		scribble(k.Dump())
		for _, op := range puts(0) {
			done(t, k, m, taken(op), op)
		}
		check(t, k, m)
		if !sameTables(ahead, want) {
			t.Fatalf("a Dump became %v", ahead)
		}
	}
}

// A Dump stays as it was told, whatever becomes of the kernel.
func TestP9_6DumpStays(t *testing.T) {
	k, m := crowded(t, 20, 20, 20)
	d := k.Dump()
	want := clone(d)
	for i := range 20 {
		for _, op := range puts(i) {
			done(t, k, m, other(op))
		}
	}
	for i := range 10 {
		for _, op := range puts(i) {
			done(t, k, m, taken(op))
		}
		done(t, k, m, puts(100+i)...)
	}
	k.Flush()
	m.flush()
	done(t, k, m, puts(3)...)
	if !reflect.DeepEqual(d, want) {
		t.Errorf("%v became %v", want, d)
	}
	check(t, k, m)
}

// Two kernels in turns: each answers as if it were alone.
func TestP9_6TwoKernels(t *testing.T) {
	r := dice()
	for range 40 {
		x, m := made(t, 3, 4, 2)
		y, n := made(t, 5, 2, 4)
		for i := range 100 {
			op := anyOp(r)
			do(t, x, m, op)
			check(t, y, n, 0, 1, 2)
			do(t, y, n, anyOp(r), op)
			check(t, x, m, 0, 1, 2)
			if i == 50 {
				x.Flush()
				m.flush()
				check(t, y, n, 0, 1, 2)
			}
		}
	}
}

// story plays one row of steps, and tells all answers.
func story(k *Kernel, seed int64) []any {
	r := rand.New(rand.NewSource(seed))
	var told []any
	for i := range 300 {
		n, e := k.Do(anyOp(r), anyOp(r))
		h, f := k.Resolve(api.Addr(r.Intn(6)))
		told = append(told, n, e, h, f)
		if i%50 == 49 {
			told = append(told, k.Dump())
		}
	}
	return told
}

// Kernels at the same time: none waits on another or sees one.
func TestP0_5KernelsAtTheSameTime(t *testing.T) {
	fresh := func() *Kernel {
		k, _ := New(6, 4, 3)
		return k
	}
	want := [][]any{story(fresh(), 0), story(fresh(), 1), story(fresh(), 2)}
	got := make([][]any, 12)
	var wait sync.WaitGroup
	for i := range got {
		wait.Add(1)
		go func() {
			defer wait.Done()
			got[i] = story(fresh(), int64(i%3))
		}()
	}
	wait.Wait()
	for i, told := range got {
		if !reflect.DeepEqual(told, want[i%3]) {
			t.Errorf("the %d-th story went another way", i)
		}
	}
}

// The way by which a kernel came to its entries is not to be seen.
func TestP0_5TheWayIsNotSeen(t *testing.T) {
	r := dice()
	for range 50 {
		k, m := made(t, 8, 6, 6)
		for range 200 {
			do(t, k, m, anyOp(r))
		}
		fresh, n := made(t, 8, 6, 6)
		d := k.Dump()
		for _, i := range r.Perm(len(d.Routes)) {
			done(t, fresh, n, api.Op{Kind: api.PutRoute, Route: d.Routes[i]})
		}
		for _, i := range r.Perm(len(d.Neighs)) {
			done(t, fresh, n, api.Op{Kind: api.PutNeigh, Neigh: d.Neighs[i]})
		}
		for _, i := range r.Perm(len(d.Fdbs)) {
			done(t, fresh, n, api.Op{Kind: api.PutFdb, Fdb: d.Fdbs[i]})
		}
		if !sameTables(d, fresh.Dump()) {
			t.Fatalf("%v against %v", d, fresh.Dump())
		}
		for i := range 20 {
			op := anyOp(r)
			do(t, k, m, op)
			do(t, fresh, n, op)
			checkResolve(t, fresh, m, api.Addr(i))
		}
		if !sameTables(k.Dump(), fresh.Dump()) {
			t.Fatalf("%v against %v", k.Dump(), fresh.Dump())
		}
	}
}

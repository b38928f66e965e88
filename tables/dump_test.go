package tables

import (
	"math"
	"slices"
	"testing"

	"weft/api"
)

func TestP9_4Empty(t *testing.T) {
	k, _ := made(t, 1, 1, 1)
	for range 2 {
		if d := k.Dump(); len(d.Routes) != 0 || len(d.Neighs) != 0 || len(d.Fdbs) != 0 {
			t.Errorf("%v", d)
		}
	}
}

// Whatever the order in which entries come, they rise in a Dump.
func TestP9_4EveryOrder(t *testing.T) {
	routes := []api.Route{
		{Dst: net(t, "0.0.0.0/0"), Via: 3}, {Dst: net(t, "0.0.0.0/32"), Local: true}, {Dst: net(t, "10.1.0.0/16"), Via: 1},
		{Dst: net(t, "10.1.0.0/24"), Via: 9}, {Dst: net(t, "10.1.2.0/24"), Local: true}, {Dst: net(t, "128.0.0.0/1"), Via: 2}, {Dst: net(t, "255.255.255.255/32")},
	}
	permutations(routes, func(list []api.Route) {
		k, _ := made(t, 7, 1, 1)
		for _, r := range list {
			k.Do(api.Op{Kind: api.PutRoute, Route: r})
		}
		if d := k.Dump(); !slices.Equal(d.Routes, routes) {
			t.Fatalf("%v, want %v", d.Routes, routes)
		}
	})
	neighs := []api.Neigh{{IP: 0, MAC: api.MAC{9}}, {IP: 1, MAC: api.MAC{3}}, {IP: 256, MAC: api.MAC{3}}, {IP: math.MaxInt32, MAC: api.MAC{2}}, {IP: 1 << 31, MAC: api.MAC{8}}, {IP: math.MaxUint32}}
	permutations(neighs, func(list []api.Neigh) {
		k, _ := made(t, 1, 6, 1)
		for _, n := range list {
			k.Do(api.Op{Kind: api.PutNeigh, Neigh: n})
		}
		if d := k.Dump(); !slices.Equal(d.Neighs, neighs) {
			t.Fatalf("%v, want %v", d.Neighs, neighs)
		}
	})
	fdbs := []api.Fdb{
		{MAC: mac(t, "00:00:00:00:00:00"), To: 9}, {MAC: mac(t, "00:00:00:00:00:ff"), To: 1}, {MAC: mac(t, "00:ff:00:00:00:00"), To: 7},
		{MAC: mac(t, "01:00:00:00:00:01"), To: 1}, {MAC: mac(t, "01:00:00:00:01:00")}, {MAC: mac(t, "80:00:00:00:00:00"), To: 3}, {MAC: mac(t, "ff:ff:ff:ff:ff:ff"), To: 2},
	}
	permutations(fdbs, func(list []api.Fdb) {
		k, _ := made(t, 1, 1, 7)
		for _, f := range list {
			k.Do(api.Op{Kind: api.PutFdb, Fdb: f})
		}
		if d := k.Dump(); !slices.Equal(d.Fdbs, fdbs) {
			t.Fatalf("%v, want %v", d.Fdbs, fdbs)
		}
	})
}

// Hardware addresses that differ in one byte alone are keys of their own, and rise by that byte, as a number without a sign.
func TestP9_4OneByteDiffers(t *testing.T) {
	for place := range 6 {
		k, m := made(t, 1, 1, 5)
		for _, b := range []byte{200, 0, 127, 255, 128} {
			var one api.MAC
			one[place] = b
			for i := range one {
				if i != place {
					one[i] = 0x5a
				}
			}
			done(t, k, m, putFdb(one, api.Addr(b)))
		}
		d := k.Dump()
		if len(d.Fdbs) != 5 {
			t.Fatalf("byte %d: %v", place, d.Fdbs)
		}
		for i, b := range []byte{0, 127, 128, 200, 255} {
			if d.Fdbs[i].MAC[place] != b || d.Fdbs[i].To != api.Addr(b) {
				t.Errorf("byte %d: %v", place, d.Fdbs)
			}
		}
		check(t, k, m)
	}
	k, m := made(t, 1, 1, 2)
	done(t, k, m, putFdb(api.MAC{1, 0, 0, 0, 0, 2}, 1), putFdb(api.MAC{2, 0, 0, 0, 0, 1}, 2))
	checkDump(t, k, m)
	if d := k.Dump(); d.Fdbs[0].To != 1 {
		t.Errorf("the first byte is ahead of the last: %v", d.Fdbs)
	}
}

// Full tables, put in by dice.
func TestP9_4Full(t *testing.T) {
	r := dice()
	k, m := made(t, 256, 256, 256)
	order := r.Perm(256)
	for _, i := range order {
		done(t, k, m, puts(i)...)
	}
	check(t, k, m)
	if d := k.Dump(); len(d.Routes) != 256 || len(d.Neighs) != 256 || len(d.Fdbs) != 256 {
		t.Errorf("%d, %d, %d", len(d.Routes), len(d.Neighs), len(d.Fdbs))
	}
	for _, i := range r.Perm(256) {
		for _, op := range puts(i) {
			done(t, k, m, taken(op))
		}
		checkDump(t, k, m)
	}
}

// The same again and again: no Dump hangs on how a table lies in memory.
func TestP9_4Again(t *testing.T) {
	k, _ := crowded(t, 100, 100, 100)
	first := k.Dump()
	for range 50 {
		if d := k.Dump(); !sameTables(d, first) {
			t.Fatalf("%v, and then %v", first, d)
		}
	}
}

func TestP9_5Flush(t *testing.T) {
	for _, rooms := range [][3]int{{1, 1, 1}, {2, 3, 4}, {256, 256, 256}} {
		k, m := made(t, rooms[0], rooms[1], rooms[2])
		k.Flush()
		check(t, k, m, 0, 5)
		for range 3 {
			for table, room := range rooms {
				for i := range room {
					done(t, k, m, puts(i)[table])
				}
				refused(t, k, m, 0, api.ErrFull, puts(room)[table])
			}
			check(t, k, m)
			k.Flush()
			m.flush()
			d := k.Dump()
			if len(d.Routes) != 0 || len(d.Neighs) != 0 || len(d.Fdbs) != 0 {
				t.Fatalf("behind Flush: %v", d)
			}
			for i := range 3 {
				resolved(t, k, puts(i)[0].Route.Dst.Addr, api.ErrRoute)
			}
		}
	}
}

func resolved(t *testing.T, k *Kernel, a api.Addr, want api.Errno) {
	t.Helper()
	if h, e := k.Resolve(a); h != (api.Hop{}) || e != want {
		t.Errorf("Resolve(%d) = %v, %d, want %d", a, h, e, want)
	}
}

// Behind Flush nothing is left in any of the three tables, each asked by a new way over it.
func TestP9_5NothingIsLeft(t *testing.T) {
	k, m := made(t, 2, 2, 2)
	p := net(t, "10.1.0.0/16")
	way := []api.Op{putVia(p, 1), putNeigh(1, api.MAC{1}), putFdb(api.MAC{1}, 7)}
	done(t, k, m, way...)
	k.Flush()
	k.Flush()
	m.flush()
	resolved(t, k, p.Addr, api.ErrRoute)
	done(t, k, m, way[0])
	resolved(t, k, p.Addr, api.ErrNeigh)
	done(t, k, m, way[1])
	resolved(t, k, p.Addr, api.ErrFdb)
	done(t, k, m, way[2])
	check(t, k, m, p.Addr)
	done(t, k, m, puts(1)...)
	refused(t, k, m, 0, api.ErrFull, puts(2)...)
	check(t, k, m, p.Addr)
}

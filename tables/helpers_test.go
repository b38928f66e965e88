package tables

import (
	"math"
	"math/rand"
	"slices"
	"testing"

	"weft/addr"
	"weft/api"
)

// dice rolls the same way in every run.
func dice() *rand.Rand {
	return rand.New(rand.NewSource(9))
}

func at(t *testing.T, s string) api.Addr {
	t.Helper()
	a, e := addr.Parse(s)
	if e != api.OK {
		t.Fatalf("%s is no address: %d", s, e)
	}
	return a
}

// net reads a valid prefix.
func net(t *testing.T, s string) api.Prefix {
	t.Helper()
	p, e := addr.ParsePrefix(s)
	if e != api.OK {
		t.Fatalf("%s is no prefix: %d", s, e)
	}
	return p
}

func mac(t *testing.T, s string) api.MAC {
	t.Helper()
	m, e := addr.ParseMAC(s)
	if e != api.OK {
		t.Fatalf("%s is no hardware address: %d", s, e)
	}
	return m
}

// The ops, each with its own part alone.

func putVia(p api.Prefix, via api.Addr) api.Op {
	return api.Op{Kind: api.PutRoute, Route: api.Route{Dst: p, Via: via}}
}

func putLocal(p api.Prefix) api.Op {
	return api.Op{Kind: api.PutRoute, Route: api.Route{Dst: p, Local: true}}
}

func delRoute(p api.Prefix) api.Op {
	return api.Op{Kind: api.DelRoute, Route: api.Route{Dst: p}}
}

func putNeigh(ip api.Addr, m api.MAC) api.Op {
	return api.Op{Kind: api.PutNeigh, Neigh: api.Neigh{IP: ip, MAC: m}}
}

func delNeigh(ip api.Addr) api.Op {
	return api.Op{Kind: api.DelNeigh, Neigh: api.Neigh{IP: ip}}
}

func putFdb(m api.MAC, to api.Addr) api.Op {
	return api.Op{Kind: api.PutFdb, Fdb: api.Fdb{MAC: m, To: to}}
}

func delFdb(m api.MAC) api.Op {
	return api.Op{Kind: api.DelFdb, Fdb: api.Fdb{MAC: m}}
}

// model is the chapter's words over plain lists, which are gone through from end to end at each call.
type model struct {
	rooms  [3]int
	routes []api.Route
	neighs []api.Neigh
	fdbs   []api.Fdb
}

// bit is an address's bit, counted from the highest.
func bit(a api.Addr, i int) api.Addr {
	return a >> (31 - i) & 1
}

func valid(p api.Prefix) bool {
	if p.Len < 0 || p.Len > 32 {
		return false
	}
	for i := p.Len; i < 32; i++ {
		if bit(p.Addr, i) != 0 {
			return false
		}
	}
	return true
}

// holds tells whether an address has a valid prefix's first bits.
func holds(p api.Prefix, a api.Addr) bool {
	for i := range p.Len {
		if bit(p.Addr, i) != bit(a, i) {
			return false
		}
	}
	return true
}

// cut is the prefix of an address's first n bits.
func cut(a api.Addr, n int) api.Prefix {
	p := api.Prefix{Len: n}
	for i := range n {
		p.Addr |= bit(a, i) << (31 - i)
	}
	return p
}

// lastOf is a valid prefix's last address.
func lastOf(p api.Prefix) api.Addr {
	a := p.Addr
	for i := p.Len; i < 32; i++ {
		a |= 1 << (31 - i)
	}
	return a
}

// lay puts an entry into a list of up to room: in the place of the one with its key, or where it rises to.
func lay[E any](list []E, room int, e E, same, ahead func(x, y E) bool) ([]E, api.Errno) {
	for i, x := range list {
		if same(x, e) {
			list[i] = e
			return list, api.OK
		}
	}
	if len(list) == room {
		return list, api.ErrFull
	}
	i := 0
	for i < len(list) && ahead(list[i], e) {
		i++
	}
	return slices.Insert(list, i, e), api.OK
}

func sameDst(x, y api.Route) bool { return x.Dst.Addr == y.Dst.Addr && x.Dst.Len == y.Dst.Len }
func sameIP(x, y api.Neigh) bool  { return x.IP == y.IP }
func sameMAC(x, y api.Fdb) bool   { return x.MAC == y.MAC }

func aheadDst(x, y api.Route) bool {
	if x.Dst.Addr != y.Dst.Addr {
		return x.Dst.Addr < y.Dst.Addr
	}
	return x.Dst.Len < y.Dst.Len
}

func aheadIP(x, y api.Neigh) bool { return x.IP < y.IP }

func aheadMAC(x, y api.Fdb) bool {
	for i := range 6 {
		if x.MAC[i] != y.MAC[i] {
			return x.MAC[i] < y.MAC[i]
		}
	}
	return false
}

// one does one op.
func (m *model) one(op api.Op) (e api.Errno) {
	switch op.Kind {
	case 1:
		if !valid(op.Route.Dst) || op.Route.Local && op.Route.Via != 0 {
			return api.ErrOp
		}
		m.routes, e = lay(m.routes, m.rooms[0], op.Route, sameDst, aheadDst)
	case 2:
		if !valid(op.Route.Dst) {
			return api.ErrOp
		}
		m.routes = slices.DeleteFunc(m.routes, func(r api.Route) bool { return sameDst(r, op.Route) })
	case 3:
		m.neighs, e = lay(m.neighs, m.rooms[1], op.Neigh, sameIP, aheadIP)
	case 4:
		m.neighs = slices.DeleteFunc(m.neighs, func(n api.Neigh) bool { return sameIP(n, op.Neigh) })
	case 5:
		m.fdbs, e = lay(m.fdbs, m.rooms[2], op.Fdb, sameMAC, aheadMAC)
	case 6:
		m.fdbs = slices.DeleteFunc(m.fdbs, func(f api.Fdb) bool { return sameMAC(f, op.Fdb) })
	default:
		return api.ErrOp
	}
	return e
}

func (m *model) do(ops []api.Op) (int, api.Errno) {
	for i := 0; i < len(ops); i++ {
		if e := m.one(ops[i]); e != api.OK {
			return i, e
		}
	}
	return len(ops), api.OK
}

func (m *model) resolve(a api.Addr) (api.Hop, api.Errno) {
	best := api.Route{Dst: api.Prefix{Len: -1}}
	for _, r := range m.routes {
		if holds(r.Dst, a) && r.Dst.Len > best.Dst.Len {
			best = r
		}
	}
	if best.Dst.Len < 0 {
		return api.Hop{}, api.ErrRoute
	}
	if best.Local {
		return api.Hop{Local: true, Dst: best.Dst}, api.OK
	}
	for _, n := range m.neighs {
		if n.IP != best.Via {
			continue
		}
		for _, f := range m.fdbs {
			if f.MAC == n.MAC {
				return api.Hop{Dst: best.Dst, Via: best.Via, MAC: n.MAC, To: f.To}, api.OK
			}
		}
		return api.Hop{}, api.ErrFdb
	}
	return api.Hop{}, api.ErrNeigh
}

func (m *model) flush() {
	m.routes, m.neighs, m.fdbs = nil, nil, nil
}

// made is a kernel, and a model of it.
func made(t *testing.T, routes, neighs, fdbs int) (*Kernel, *model) {
	t.Helper()
	k, e := New(routes, neighs, fdbs)
	if k == nil || e != api.OK {
		t.Fatalf("P9.1: New(%d, %d, %d) = %v, %d", routes, neighs, fdbs, k, e)
	}
	return k, &model{rooms: [3]int{routes, neighs, fdbs}}
}

// do does ops to both, and holds the answers against each other.
func do(t *testing.T, k *Kernel, m *model, ops ...api.Op) {
	t.Helper()
	n, e := k.Do(ops...)
	if i, f := m.do(ops); n != i || e != f {
		t.Fatalf("P9.2: Do(%v) = %d, %d, want %d, %d", ops, n, e, i, f)
	}
}

// refused does ops to both, of which the one at a place is to be refused.
func refused(t *testing.T, k *Kernel, m *model, place int, want api.Errno, ops ...api.Op) {
	t.Helper()
	n, e := k.Do(ops...)
	if n != place || e != want {
		t.Fatalf("P9.2: Do(%v) = %d, %d, want %d, %d", ops, n, e, place, want)
	}
	if i, f := m.do(ops); n != i || e != f {
		t.Fatalf("the model of Do(%v) says %d, %d", ops, i, f)
	}
}

// done does ops to both, of which none is to be refused.
func done(t *testing.T, k *Kernel, m *model, ops ...api.Op) {
	t.Helper()
	refused(t, k, m, len(ops), api.OK, ops...)
}

func sameTables(x, y api.Tables) bool {
	return slices.Equal(x.Routes, y.Routes) && slices.Equal(x.Neighs, y.Neighs) && slices.Equal(x.Fdbs, y.Fdbs)
}

// checkDump holds Dump against the model.
func checkDump(t *testing.T, k *Kernel, m *model) {
	t.Helper()
	want := api.Tables{Routes: m.routes, Neighs: m.neighs, Fdbs: m.fdbs}
	if d := k.Dump(); !sameTables(d, want) {
		t.Fatalf("P9.4: Dump() = %v, want %v", d, want)
	}
}

// checkResolve holds Resolve of an address against the model.
func checkResolve(t *testing.T, k *Kernel, m *model, a api.Addr) {
	t.Helper()
	h, e := k.Resolve(a)
	if g, f := m.resolve(a); h != g || e != f {
		t.Fatalf("P9.3: Resolve(%s) = %v, %d, want %v, %d, of %v", addr.Format(a), h, e, g, f, *m)
	}
}

// check holds all that a kernel can be asked against the model: of the addresses, and of each route's two ends and the addresses beside them.
func check(t *testing.T, k *Kernel, m *model, asked ...api.Addr) {
	t.Helper()
	checkDump(t, k, m)
	for _, a := range asked {
		checkResolve(t, k, m, a)
	}
	for _, r := range m.routes {
		for _, a := range []api.Addr{r.Dst.Addr, r.Dst.Addr - 1, lastOf(r.Dst), lastOf(r.Dst) + 1} {
			checkResolve(t, k, m, a)
		}
	}
}

// wrong is a list of prefixes that are not valid.
func wrong() []api.Prefix {
	list := []api.Prefix{
		{Len: -1}, {Len: 33}, {Len: 34}, {Len: 64}, {Len: 65}, {Len: -32}, {Len: math.MaxInt}, {Len: math.MinInt},
		{Len: 1 << 32}, {Len: 1<<32 + 8}, {Len: 256}, {Addr: 1 << 31, Len: -1}, {Addr: math.MaxUint32, Len: 33},
	}
	for n := range 32 {
		list = append(list, api.Prefix{Addr: 1, Len: n}, api.Prefix{Addr: 1 << (31 - n), Len: n}, api.Prefix{Addr: math.MaxUint32, Len: n})
	}
	return list
}

// wrongKinds is a list of numbers that are no op's kind.
func wrongKinds() []int {
	return []int{0, 7, -1, 8, -2, -6, 9, 255, 256, 257, 1<<8 + 3, 1<<16 + 1, 1<<32 + 1, 1<<32 + 5, math.MaxInt, math.MinInt, math.MinInt + 1}
}

// puts is an op for each of the tables, of keys that no other number has.
func puts(i int) []api.Op {
	n := api.Addr(i)
	return []api.Op{
		putVia(api.Prefix{Addr: n * 2654435761, Len: 32}, n),
		putNeigh(n*2654435761, api.MAC{byte(i)}),
		putFdb(api.MAC{byte(i >> 8), 1, 2, 3, 4, byte(i)}, n),
	}
}

// other is an op of the same kind and key, but with another entry.
func other(op api.Op) api.Op {
	op.Route.Via++
	op.Neigh.MAC[5]++
	op.Fdb.To++
	return op
}

// taken is the op that deletes what an op puts.
func taken(op api.Op) api.Op {
	op.Kind++
	return op
}

// crowded is a kernel with as many entries in each of its tables as it has room for.
func crowded(t *testing.T, routes, neighs, fdbs int) (*Kernel, *model) {
	t.Helper()
	k, m := made(t, routes, neighs, fdbs)
	for table, room := range m.rooms {
		for i := range room {
			done(t, k, m, puts(i)[table])
		}
	}
	checkDump(t, k, m)
	return k, m
}

// permutations calls f with each order of a list.
func permutations[E any](list []E, f func([]E)) {
	if len(list) < 2 {
		f(list)
		return
	}
	for i := range list {
		rest := slices.Delete(slices.Clone(list), i, i+1)
		permutations(rest, func(tail []E) { f(append([]E{list[i]}, tail...)) })
	}
}

package agent

import (
	"math/big"
	"slices"

	"weft/api"
)

// prefixKey and macKey are keys as numbers: they rise as the keys do, where the prefixes are valid.
func prefixKey(p api.Prefix) uint64 { return uint64(p.Addr)*64 + uint64(p.Len) }

func macKey(m api.MAC) uint64 {
	n := uint64(0)
	for _, b := range m {
		n = n*256 + uint64(b)
	}
	return n
}

func isPrefix(p api.Prefix) bool {
	return p.Len >= 0 && p.Len <= 32 && uint64(p.Addr)%(1<<(32-p.Len)) == 0
}

// laid is tables as maps from keys to entries.
type laid struct {
	routes map[uint64]api.Route
	neighs map[uint64]api.Neigh
	fdbs   map[uint64]api.Fdb
}

func empty() laid {
	return laid{map[uint64]api.Route{}, map[uint64]api.Neigh{}, map[uint64]api.Fdb{}}
}

func layOf(t api.Tables) laid {
	l := empty()
	for _, r := range t.Routes {
		l.do(putRoute(r))
	}
	for _, n := range t.Neighs {
		l.do(putNeigh(n))
	}
	for _, f := range t.Fdbs {
		l.do(putFdb(f))
	}
	return l
}

func (l laid) do(op api.Op) {
	switch op.Kind {
	case api.PutRoute:
		l.routes[prefixKey(op.Route.Dst)] = op.Route
	case api.DelRoute:
		delete(l.routes, prefixKey(op.Route.Dst))
	case api.PutNeigh:
		l.neighs[uint64(op.Neigh.IP)] = op.Neigh
	case api.DelNeigh:
		delete(l.neighs, uint64(op.Neigh.IP))
	case api.PutFdb:
		l.fdbs[macKey(op.Fdb.MAC)] = op.Fdb
	case api.DelFdb:
		delete(l.fdbs, macKey(op.Fdb.MAC))
	}
}

// rising is the values of a map in the order of its keys.
func rising[V any](m map[uint64]V) []V {
	var keys []uint64
	for k := range m {
		keys = append(keys, k)
	}
	slices.Sort(keys)
	var list []V
	for _, k := range keys {
		list = append(list, m[k])
	}
	return list
}

func (l laid) tables() api.Tables {
	return tables(rising(l.routes), rising(l.neighs), rising(l.fdbs))
}

// way is where a route leads, as one or two entries or none.
func (l laid) way(r api.Route) []any {
	n, there := l.neighs[uint64(r.Via)]
	if !there {
		return nil
	}
	f, there := l.fdbs[macKey(n.MAC)]
	if !there {
		return []any{n}
	}
	return []any{n, f}
}

// isWhole tells whether every route that is not local leads to a neighbour and an entry.
func (l laid) isWhole() bool {
	for _, r := range l.routes {
		if !r.Local && len(l.way(r)) < 2 {
			return false
		}
	}
	return true
}

// isOrdered is 'tables in order'.
func isOrdered(t api.Tables) bool {
	for i, r := range t.Routes {
		if !isPrefix(r.Dst) || i > 0 && prefixKey(t.Routes[i-1].Dst) >= prefixKey(r.Dst) {
			return false
		}
	}
	for i := range t.Neighs {
		if i > 0 && t.Neighs[i-1].IP >= t.Neighs[i].IP {
			return false
		}
	}
	for i := range t.Fdbs {
		if i > 0 && macKey(t.Fdbs[i-1].MAC) >= macKey(t.Fdbs[i].MAC) {
			return false
		}
	}
	return true
}

// planned is P16.1 by maps: what is laid later stays.
func planned(leases []api.Lease, host int) laid {
	l := empty()
	for _, x := range leases {
		switch {
		case !isPrefix(x.Subnet):
		case x.Host == host:
			l.do(putRoute(api.Route{Dst: x.Subnet, Local: true}))
		default:
			l.do(putRoute(api.Route{Dst: x.Subnet, Via: x.Subnet.Addr}))
			l.do(putNeigh(api.Neigh{IP: x.Subnet.Addr, MAC: x.MAC}))
			l.do(putFdb(api.Fdb{MAC: x.MAC, To: x.Pub}))
		}
	}
	return l
}

// diffed is P16.2, group by group.
func diffed(have, want laid) []api.Op {
	stays := func(r api.Route) bool {
		twin, there := want.routes[prefixKey(r.Dst)]
		return there && twin == r && (r.Local || slices.Equal(have.way(r), want.way(r)))
	}
	var groups [7][]api.Op
	for _, r := range rising(have.routes) {
		if !stays(r) && r.Local {
			groups[0] = append(groups[0], delRoute(r))
		} else if !stays(r) {
			groups[1] = append(groups[1], delRoute(r))
		}
	}
	for _, n := range rising(have.neighs) {
		if twin, there := want.neighs[uint64(n.IP)]; !there || twin != n {
			groups[2] = append(groups[2], delNeigh(n))
		}
	}
	for _, f := range rising(have.fdbs) {
		if twin, there := want.fdbs[macKey(f.MAC)]; !there || twin != f {
			groups[3] = append(groups[3], delFdb(f))
		}
	}
	for _, f := range rising(want.fdbs) {
		if twin, there := have.fdbs[macKey(f.MAC)]; !there || twin != f {
			groups[4] = append(groups[4], putFdb(f))
		}
	}
	for _, n := range rising(want.neighs) {
		if twin, there := have.neighs[uint64(n.IP)]; !there || twin != n {
			groups[5] = append(groups[5], putNeigh(n))
		}
	}
	for _, r := range rising(want.routes) {
		if twin, there := have.routes[prefixKey(r.Dst)]; !there || twin != r || !stays(r) {
			groups[6] = append(groups[6], putRoute(r))
		}
	}
	return slices.Concat(groups[:]...)
}

// model is an agent by the chapter's words: maps in the place of lists, and the last request with its answer in the place of what hangs on them.
type model struct {
	self     api.Self
	open     *api.Req
	have     *laid // nil: not read yet
	leases   map[uint64]api.Lease
	cursor   int64
	stale    bool
	skipped  map[uint64]api.Prefix
	degraded bool
	granted  int64
	waiting  bool
	wish     api.Prefix
	lastReq  api.Req
	lastErr  api.Errno
	lastLen  int
}

func modelOf(s api.Self) *model {
	return &model{self: s, leases: map[uint64]api.Lease{}, skipped: map[uint64]api.Prefix{}, stale: true}
}

// own is the own lease, or nil.
func (m *model) own() *api.Lease {
	for _, l := range rising(m.leases) {
		if l.Host == m.self.Host {
			return &l
		}
	}
	return nil
}

func (m *model) left() []api.Op {
	var served []api.Lease
	for key, l := range m.leases {
		if _, out := m.skipped[key]; !out {
			served = append(served, l)
		}
	}
	slices.SortFunc(served, func(x, y api.Lease) int {
		if prefixKey(x.Subnet) < prefixKey(y.Subnet) {
			return -1
		}
		return 1
	})
	return diffed(*m.have, planned(served, m.self.Host))
}

// isDue tells whether a lease with that end is to be renewed now, by sums of any size.
func (m *model) isDue(until, now int64) bool {
	when := new(big.Int).Sub(big.NewInt(until), big.NewInt(m.self.Renew))
	return big.NewInt(now).Cmp(when) >= 0
}

func (m *model) next(now int64) api.Req {
	if m.open == nil {
		r := m.choose(now)
		m.open = &r
	}
	return *m.open
}

func (m *model) choose(now int64) api.Req {
	if m.have == nil {
		return api.Req{Kind: 1}
	}
	if m.stale {
		return api.Req{Kind: 2}
	}
	if ops := m.left(); len(ops) > 0 {
		return api.Req{Kind: 3, Op: ops[0]}
	}
	own := m.own()
	if (own == nil || own.Pub != m.self.Pub || own.MAC != m.self.MAC) && m.cursor >= m.granted && !m.waiting {
		return api.Req{Kind: 4, Cmd: api.Cmd{Kind: 1, Host: m.self.Host, Pub: m.self.Pub, MAC: m.self.MAC, Subnet: m.wish}}
	}
	justRenewed := m.lastReq.Kind == 5 && m.lastErr == 0
	if own != nil && !justRenewed && own.Until < 1<<63-1 && m.isDue(own.Until, now) {
		return api.Req{Kind: 5, Cmd: api.Cmd{Kind: 2, Host: m.self.Host, Subnet: own.Subnet}}
	}
	return api.Req{Kind: 6, From: m.cursor, Max: 4}
}

func (m *model) done(r api.Resp) api.Errno {
	if m.open == nil {
		return 160
	}
	if r.Err == 0 {
		if err := m.wrong(r); err != 0 {
			return err
		}
		m.take(r)
	} else {
		m.fail(r.Err)
	}
	m.lastReq, m.lastErr, m.lastLen = *m.open, r.Err, len(r.Events)
	m.open = nil
	return 0
}

func (m *model) wrong(r api.Resp) api.Errno {
	bad := false
	switch m.open.Kind {
	case 1:
		if !isOrdered(r.Tables) {
			return 161
		}
	case 2:
		bad = r.Snap.Rev < 0
		for i, l := range r.Snap.Leases {
			bad = bad || !isPrefix(l.Subnet) || i > 0 && prefixKey(r.Snap.Leases[i-1].Subnet) >= prefixKey(l.Subnet)
		}
	case 4, 5:
		bad = r.Answer.Lease.Host != m.self.Host || !isPrefix(r.Answer.Lease.Subnet)
	case 6:
		bad = len(r.Events) > 4
		for i, ev := range r.Events {
			want := new(big.Int).Add(big.NewInt(m.cursor), big.NewInt(int64(i)+1))
			bad = bad || big.NewInt(ev.Rev).Cmp(want) != 0 || ev.Kind != 1 && ev.Kind != 2 || !isPrefix(ev.Lease.Subnet)
		}
	}
	if bad {
		return 162
	}
	return 0
}

func (m *model) take(r api.Resp) {
	switch m.open.Kind {
	case 1:
		l := layOf(r.Tables)
		m.have = &l
		for _, x := range slices.Backward(r.Tables.Routes) {
			if x.Local {
				m.wish = x.Dst
			}
		}
	case 2:
		fresh := modelOf(m.self)
		m.leases, m.skipped = fresh.leases, fresh.skipped
		m.cursor, m.stale, m.waiting, m.granted = r.Snap.Rev, false, false, 0
		for _, l := range r.Snap.Leases {
			m.leases[prefixKey(l.Subnet)] = l
		}
		if own := m.own(); own != nil {
			m.wish = own.Subnet
		}
	case 3:
		m.have.do(m.open.Op)
	case 4, 5:
		l := r.Answer.Lease
		if own := m.own(); own != nil && own.Subnet == l.Subnet {
			own.Until = l.Until
			m.leases[prefixKey(own.Subnet)] = *own
		}
		if m.open.Kind == 4 {
			m.granted, m.wish = l.Rev, l.Subnet
		}
	case 6:
		for _, ev := range r.Events {
			m.see(ev)
		}
	}
}

func (m *model) see(ev api.Event) {
	key := prefixKey(ev.Lease.Subnet)
	m.cursor = ev.Rev
	if ev.Kind == 2 {
		delete(m.leases, key)
		delete(m.skipped, key)
		m.waiting = false
		return
	}
	m.leases[key] = ev.Lease
	if ev.Lease.Host == m.self.Host {
		m.wish = ev.Lease.Subnet
	}
}

func (m *model) fail(err api.Errno) {
	op := m.open.Op
	switch {
	case m.open.Kind == 3 && err == 4 && op.Kind%2 == 1:
		m.degraded = true
		for key, l := range m.leases {
			others := l.Host != m.self.Host
			if op.Kind == 1 && l.Subnet == op.Route.Dst || op.Kind == 3 && others && l.Subnet.Addr == op.Neigh.IP || op.Kind == 5 && others && l.MAC == op.Fdb.MAC {
				m.skipped[key] = l.Subnet
			}
		}
	case m.open.Kind == 4 && err == 4:
		m.waiting = true
	case m.open.Kind == 5 && err == 111, m.open.Kind == 6 && slices.Contains([]api.Errno{112, 113, 140, 141, 142}, err):
		m.stale = true
	}
}

func (m *model) view() api.View {
	v := api.View{Cursor: m.cursor, Degraded: m.degraded, Leases: rising(m.leases), Skipped: rising(m.skipped)}
	if own := m.own(); own != nil {
		v.Has, v.Lease = true, *own
	}
	if m.have != nil {
		v.Have = m.have.tables()
		v.Synced = !m.stale && len(m.left()) == 0 && m.lastReq.Kind == 6 && m.lastErr == 0 && m.lastLen == 0
	}
	return v
}

package lease

import (
	"cmp"
	"math"
	"math/rand"
	"slices"
	"testing"

	"weft/api"
	"weft/conf"
)

const last = int64(1099511627776)

// dice rolls the same way in every run.
func dice() *rand.Rand {
	return rand.New(rand.NewSource(11))
}

// nth is the subnet 10.0.n.0/24.
func nth(n int) api.Prefix {
	return api.Prefix{Addr: api.Addr(10<<24 + n<<8), Len: 24}
}

// config is the chapter's configuration.
func config() api.Config {
	return api.Config{
		Network: api.Prefix{Addr: 10 << 24, Len: 16}, SubnetLen: 24, Min: nth(1).Addr, Max: nth(2).Addr,
		VNI: 1, Port: 4789, MTU: 1500, TTL: 5, Renew: 1, Log: 3, Hosts: 4, First: 192<<24 + 168<<16,
		Routes: 64, Neighs: 64, Fdbs: 64, Room: 64, Reserved: []api.Reserve{{Host: 3, Subnet: nth(9)}},
	}
}

// wide is a configuration with the subnets low to high for so many hosts, a log of so many events, and nothing reserved.
func wide(low, high, hosts, log int) api.Config {
	c := config()
	c.Min, c.Max, c.Hosts, c.Log, c.Reserved = nth(low).Addr, nth(high).Addr, hosts, log, nil
	return c
}

// who is what a host tells of itself.
type who struct {
	pub api.Addr
	mac api.MAC
}

var (
	x = who{pub: 0xc0000201, mac: api.MAC{2, 0, 0, 0, 0, 1}}
	y = who{pub: 0xc0000202, mac: api.MAC{2, 0, 0, 0, 0, 2}}
)

func acquire(host int, w who, wish api.Prefix) api.Cmd {
	return api.Cmd{Kind: api.Acquire, Host: host, Subnet: wish, Pub: w.pub, MAC: w.mac}
}

func renew(host int, subnet api.Prefix) api.Cmd {
	return api.Cmd{Kind: api.Renew, Host: host, Subnet: subnet}
}

func release(host int) api.Cmd { return api.Cmd{Kind: api.Release, Host: host} }

func tick(n int64) api.Cmd { return api.Cmd{Kind: api.Tick, N: n} }

// held is a lease.
func held(host int, w who, subnet api.Prefix, until, rev int64) api.Lease {
	return api.Lease{Host: host, Subnet: subnet, Pub: w.pub, MAC: w.mac, Until: until, Rev: rev}
}

func added(l api.Lease) api.Event { return api.Event{Rev: l.Rev, Kind: api.Added, Lease: l} }

func removed(rev int64, l api.Lease) api.Event {
	return api.Event{Rev: rev, Kind: api.Removed, Lease: l}
}

// model is the chapter's words over plain lists. Its events are all that ever were, or all behind those that an image told.
type model struct {
	c      api.Config
	now    int64
	rev    int64
	live   []api.Lease
	events []api.Event
}

// later is the sum of two numbers that are not below 0, Never at most.
func later(now, span int64) int64 {
	if sum := uint64(now) + uint64(span); sum < math.MaxInt64 {
		return int64(sum)
	}
	return math.MaxInt64
}

// isSubnet is 'a valid prefix of Len c.SubnetLen whose address is inside c.Network'.
func isSubnet(c api.Config, p api.Prefix) bool {
	if p.Len != c.SubnetLen {
		return false
	}
	behind := uint64(p.Addr) % (1 << (32 - p.Len))
	return behind == 0 && uint64(p.Addr)>>(32-c.Network.Len) == uint64(c.Network.Addr)>>(32-c.Network.Len)
}

// ownOf is the subnet that is reserved for a host.
func ownOf(c api.Config, host int) (api.Prefix, bool) {
	for _, r := range c.Reserved {
		if r.Host == host {
			return r.Subnet, true
		}
	}
	return api.Prefix{}, false
}

// mayHave is 'may be had'.
func mayHave(c api.Config, host int, p api.Prefix) bool {
	if !isSubnet(c, p) {
		return false
	}
	if own, ok := ownOf(c, host); ok {
		return own == p
	}
	for _, r := range c.Reserved {
		if r.Subnet == p {
			return false
		}
	}
	return c.Min <= p.Addr && p.Addr <= c.Max
}

func (m *model) leaseOf(host int) int {
	return slices.IndexFunc(m.live, func(l api.Lease) bool { return l.Host == host })
}

func (m *model) isFree(p api.Prefix) bool {
	return !slices.ContainsFunc(m.live, func(l api.Lease) bool { return l.Subnet == p })
}

// pick is the subnet that a host gets.
func (m *model) pick(host int, wish api.Prefix) (api.Prefix, bool) {
	if own, ok := ownOf(m.c, host); ok {
		return own, true
	}
	if mayHave(m.c, host, wish) && m.isFree(wish) {
		return wish, true
	}
	for a := uint64(m.c.Min); a <= uint64(m.c.Max); a += 1 << (32 - m.c.SubnetLen) {
		if p := (api.Prefix{Addr: api.Addr(a), Len: m.c.SubnetLen}); mayHave(m.c, host, p) && m.isFree(p) {
			return p, true
		}
	}
	return api.Prefix{}, false
}

func (m *model) event(kind int, l api.Lease) {
	m.rev++
	if kind == api.Added {
		l.Rev = m.rev
	}
	m.events = append(m.events, api.Event{Rev: m.rev, Kind: kind, Lease: l})
}

// apply carries a command out on a copy, so that what is refused changes nothing.
func (m *model) apply(cmd api.Cmd) api.Answer {
	next := *m
	next.live, next.events = slices.Clone(m.live), slices.Clone(m.events)
	l, e := next.carry(cmd)
	if e == api.OK && next.rev > last {
		e = api.ErrFull
	}
	if e != api.OK {
		l = api.Lease{}
	} else {
		*m = next
	}
	return api.Answer{Err: e, Lease: l, Rev: m.rev, Now: m.now}
}

func (m *model) carry(cmd api.Cmd) (api.Lease, api.Errno) {
	if cmd.Kind != api.Acquire && cmd.Kind != api.Renew && cmd.Kind != api.Release && cmd.Kind != api.Tick {
		return api.Lease{}, api.ErrCmd
	}
	if cmd.Kind == api.Tick {
		if cmd.N < 0 {
			return api.Lease{}, api.ErrArg
		}
		m.tick(cmd.N)
		return api.Lease{}, api.OK
	}
	if cmd.Host < 0 || cmd.Host > m.c.Hosts-1 {
		return api.Lease{}, api.ErrArg
	}
	i := m.leaseOf(cmd.Host)
	if cmd.Kind == api.Acquire {
		return m.acquire(i, cmd)
	}
	if i < 0 || cmd.Kind == api.Renew && m.live[i].Subnet != cmd.Subnet {
		return api.Lease{}, api.ErrLease
	}
	if cmd.Kind == api.Renew {
		m.live[i].Until = later(m.now, m.c.TTL)
		return m.live[i], api.OK
	}
	l := m.live[i]
	m.live = slices.Delete(m.live, i, i+1)
	m.event(api.Removed, l)
	return l, api.OK
}

func (m *model) acquire(i int, cmd api.Cmd) (api.Lease, api.Errno) {
	if i < 0 {
		p, ok := m.pick(cmd.Host, cmd.Subnet)
		if !ok {
			return api.Lease{}, api.ErrFull
		}
		l := api.Lease{Host: cmd.Host, Subnet: p, Pub: cmd.Pub, MAC: cmd.MAC, Until: later(m.now, m.c.TTL), Rev: m.rev + 1}
		m.live = append(m.live, l)
		m.event(api.Added, l)
		return l, api.OK
	}
	m.live[i].Until = later(m.now, m.c.TTL)
	if m.live[i].Pub != cmd.Pub || m.live[i].MAC != cmd.MAC {
		m.live[i].Pub, m.live[i].MAC = cmd.Pub, cmd.MAC
		m.event(api.Added, m.live[i])
		m.live[i].Rev = m.rev
	}
	return m.live[i], api.OK
}

// tick looks for the first that goes, again and again.
func (m *model) tick(n int64) {
	m.now = later(m.now, n)
	for {
		first := -1
		for i, l := range m.live {
			if l.Until > m.now {
				continue
			}
			if first < 0 || l.Until < m.live[first].Until || l.Until == m.live[first].Until && l.Subnet.Addr < m.live[first].Subnet.Addr {
				first = i
			}
		}
		if first < 0 {
			return
		}
		l := m.live[first]
		m.live = slices.Delete(m.live, first, first+1)
		m.event(api.Removed, l)
	}
}

// leases is the live ones, rising.
func (m *model) leases() []api.Lease {
	list := slices.Clone(m.live)
	slices.SortFunc(list, func(x, y api.Lease) int {
		return cmp.Or(cmp.Compare(x.Subnet.Addr, y.Subnet.Addr), cmp.Compare(x.Subnet.Len, y.Subnet.Len))
	})
	return list
}

// kept is the log's events: those with the revisions Rev - k + 1 to Rev.
func (m *model) kept() []api.Event {
	k := min(int64(m.c.Log), m.rev)
	var list []api.Event
	for _, e := range m.events {
		if m.rev-k+1 <= e.Rev && e.Rev <= m.rev {
			list = append(list, e)
		}
	}
	return list
}

func (m *model) watch(from int64, limit int) ([]api.Event, api.Errno) {
	if from < 0 || limit < 1 {
		return nil, api.ErrArg
	}
	if from > m.rev {
		return nil, api.ErrFuture
	}
	var list []api.Event
	for _, e := range m.kept() {
		if e.Rev > from {
			list = append(list, e)
		}
	}
	if from < m.rev && list[0].Rev != from+1 {
		return nil, api.ErrCompacted
	}
	return list[:min(limit, len(list))], api.OK
}

func (m *model) holder(a api.Addr) (api.Lease, api.Errno) {
	for _, l := range m.live {
		if first := uint64(l.Subnet.Addr); first <= uint64(a) && uint64(a) < first+1<<(32-l.Subnet.Len) {
			return l, api.OK
		}
	}
	return api.Lease{}, api.ErrNone
}

func (m *model) image() api.Image {
	return api.Image{Rev: m.rev, Now: m.now, Leases: m.leases(), Events: m.kept()}
}

// both is a store and its model, which must answer the same.
type both struct {
	t *testing.T
	s *Store
	m *model
}

func made(t *testing.T, c api.Config) both {
	t.Helper()
	s, e := New(c)
	if s == nil || e != api.OK || conf.Check(c) != api.OK {
		t.Fatalf("New(%+v) = %v, %d", c, s, e)
	}
	c.Reserved = slices.Clone(c.Reserved)
	b := both{t: t, s: s, m: &model{c: c}}
	b.check()
	return b
}

// restored is a store of an image that may be, and its model.
func restored(t *testing.T, c api.Config, img api.Image) both {
	t.Helper()
	s, e := Restore(c, img)
	if s == nil || e != api.OK {
		t.Fatalf("Restore(%+v, %+v) = %v, %d", c, img, s, e)
	}
	c.Reserved = slices.Clone(c.Reserved)
	b := both{t: t, s: s, m: &model{c: c, now: img.Now, rev: img.Rev, live: slices.Clone(img.Leases), events: slices.Clone(img.Events)}}
	b.check()
	return b
}

// do carries a command out.
func (b both) do(cmd api.Cmd) api.Answer {
	b.t.Helper()
	got, want := b.s.Apply(cmd), b.m.apply(cmd)
	if got != want {
		b.t.Fatalf("Apply(%+v) = %+v, want %+v", cmd, got, want)
	}
	return got
}

// is carries a command out, and holds its answer and all that is told behind it against what is wanted.
func (b both) is(cmd api.Cmd, e api.Errno, l api.Lease, rev, now int64) {
	b.t.Helper()
	if got, want := b.do(cmd), (api.Answer{Err: e, Lease: l, Rev: rev, Now: now}); got != want {
		b.t.Fatalf("Apply(%+v) = %+v, want %+v", cmd, got, want)
	}
	b.check()
}

// ok carries out commands that are all done.
func (b both) ok(cmds ...api.Cmd) {
	b.t.Helper()
	for _, cmd := range cmds {
		if got := b.do(cmd); got.Err != api.OK {
			b.t.Fatalf("Apply(%+v) = %+v", cmd, got)
		}
	}
	b.check()
}

// refused carries out a command that changes nothing.
func (b both) refused(e api.Errno, cmd api.Cmd) {
	b.t.Helper()
	before := b.s.Image()
	b.is(cmd, e, api.Lease{}, before.Rev, before.Now)
	if after := b.s.Image(); !sameImage(before, after) {
		b.t.Fatalf("Apply(%+v): %+v became %+v", cmd, before, after)
	}
}

func (b both) watch(from int64, limit int) ([]api.Event, api.Errno) {
	b.t.Helper()
	l, e := b.s.Watch(from, limit)
	if want, f := b.m.watch(from, limit); e != f || !slices.Equal(l, want) {
		b.t.Fatalf("Watch(%d, %d) = %+v, %d, want %+v, %d", from, limit, l, e, want, f)
	}
	return l, e
}

func (b both) holder(a api.Addr) (api.Lease, api.Errno) {
	b.t.Helper()
	l, e := b.s.Holder(a)
	if want, f := b.m.holder(a); l != want || e != f {
		b.t.Fatalf("Holder(%d) = %+v, %d, want %+v, %d", a, l, e, want, f)
	}
	return l, e
}

// check holds all that a store tells against its model; it asks twice, for a question changes nothing.
func (b both) check() {
	b.t.Helper()
	for range 2 {
		snap := b.s.Snapshot()
		if snap.Rev != b.m.rev || snap.Now != b.m.now || !slices.Equal(snap.Leases, b.m.leases()) {
			b.t.Fatalf("Snapshot() = %+v, want %d, %d, %+v", snap, b.m.rev, b.m.now, b.m.leases())
		}
		if img := b.s.Image(); !sameImage(img, b.m.image()) {
			b.t.Fatalf("Image() = %+v, want %+v", img, b.m.image())
		}
		oldest := b.m.rev - int64(len(b.m.kept()))
		for _, from := range []int64{-1, 0, oldest - 1, oldest, oldest + 1, b.m.rev - 1, b.m.rev, b.m.rev + 1} {
			for _, limit := range []int{0, 1, 2, b.m.c.Log, math.MaxInt} {
				b.watch(from, limit)
			}
		}
		for _, l := range b.m.live {
			width := api.Addr(1) << (32 - l.Subnet.Len)
			for _, a := range []api.Addr{l.Subnet.Addr - 1, l.Subnet.Addr, l.Subnet.Addr + width/2, l.Subnet.Addr + width - 1, l.Subnet.Addr + width} {
				b.holder(a)
			}
		}
	}
}

func sameImage(x, y api.Image) bool {
	return x.Rev == y.Rev && x.Now == y.Now && slices.Equal(x.Leases, y.Leases) && slices.Equal(x.Events, y.Events)
}

// clone is an image that shares nothing with another.
func clone(img api.Image) api.Image {
	img.Leases, img.Events = slices.Clone(img.Leases), slices.Clone(img.Events)
	return img
}

// moved is an image whose revisions are all the same number above.
func moved(img api.Image, by int64) api.Image {
	img = clone(img)
	img.Rev += by
	for i := range img.Leases {
		img.Leases[i].Rev += by
	}
	for i := range img.Events {
		img.Events[i].Rev += by
		img.Events[i].Lease.Rev += by
	}
	return img
}

// strange is prefixes that are no subnets of the chapter's configuration: of a wrong length, with bits behind it, outside the network, without sense.
func strange() []api.Prefix {
	list := []api.Prefix{{}, {Len: 24}, {Addr: math.MaxUint32, Len: 24}, {Addr: math.MaxUint32, Len: 32}, {Addr: 10 << 24, Len: 16}, {Addr: 11 << 24, Len: 24}, {Addr: 10<<24 + 1<<16, Len: 24}, {Addr: 10<<24 - 1<<8, Len: 24}}
	for _, n := range []int{math.MinInt, -24, -1, 0, 23, 25, 31, 32, 33, 24 + 32, 24 + 256, 24 + 1<<32, math.MaxInt} {
		list = append(list, api.Prefix{Addr: nth(2).Addr, Len: n})
	}
	for i := range 8 {
		list = append(list, api.Prefix{Addr: nth(2).Addr | 1<<i, Len: 24})
	}
	return list
}

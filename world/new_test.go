package world

import (
	"math"
	"slices"
	"testing"

	"weft/api"
	"weft/conf"
	"weft/journal"
	"weft/vault"
)

// wrong is configurations that may not be.
func wrong() []api.Config {
	changes := []func(*api.Config){
		func(c *api.Config) { c.Network.Len = 7 },
		func(c *api.Config) { c.Network.Addr++ },
		func(c *api.Config) { c.SubnetLen = 31 },
		func(c *api.Config) { c.SubnetLen = 16 },
		func(c *api.Config) { c.Min++ },
		func(c *api.Config) { c.Max = quad(10, 6, 0, 0) },
		func(c *api.Config) { c.Min, c.Max = c.Max, c.Min },
		func(c *api.Config) { c.VNI = 1 << 24 },
		func(c *api.Config) { c.VNI = -1 },
		func(c *api.Config) { c.Port = 0 },
		func(c *api.Config) { c.Port = 1 << 16 },
		func(c *api.Config) { c.MTU = 125 },
		func(c *api.Config) { c.MTU = 9001 },
		func(c *api.Config) { c.TTL = 1 },
		func(c *api.Config) { c.TTL = 1<<40 + 1 },
		func(c *api.Config) { c.Renew = 0 },
		func(c *api.Config) { c.Renew = c.TTL },
		func(c *api.Config) { c.Log = 0 },
		func(c *api.Config) { c.Log = 257 },
		func(c *api.Config) { c.Hosts = 0 },
		func(c *api.Config) { c.Hosts = -1 },
		func(c *api.Config) { c.Hosts = 65 },
		func(c *api.Config) { c.Hosts = math.MinInt },
		func(c *api.Config) { c.Hosts = math.MaxInt },
		func(c *api.Config) { c.First = at(7, 7) },
		func(c *api.Config) { c.First = quad(255, 255, 255, 254) },
		func(c *api.Config) { c.First = 0 },
		func(c *api.Config) { c.Routes = 0 },
		func(c *api.Config) { c.Neighs = 257 },
		func(c *api.Config) { c.Fdbs = -1 },
		func(c *api.Config) { c.Room = 0 },
		func(c *api.Config) { c.Room = 257 },
		func(c *api.Config) { c.Reserved = []api.Reserve{{Host: 3, Subnet: sub(9)}} },
		func(c *api.Config) { c.Reserved = []api.Reserve{{Host: 1, Subnet: sub(9)}, {Host: 2, Subnet: sub(9)}} },
		func(c *api.Config) { c.Reserved = []api.Reserve{{Host: 1, Subnet: sub(9)}, {Host: 0, Subnet: sub(8)}} },
		func(c *api.Config) { *c = api.Config{} },
	}
	var all []api.Config
	for _, change := range changes {
		all = append(all, config(change))
	}
	return all
}

func TestP19_1WrongConfig(t *testing.T) {
	spoilt := api.Disk{A: make([]byte, 16)}
	for i, c := range wrong() {
		want := conf.Check(c)
		if want == api.OK {
			t.Fatalf("configuration %d may be", i)
		}
		for _, d := range []api.Disk{{}, spoilt} {
			if w, err := Open(c, d); w != nil || err != want {
				t.Errorf("P19.1: Open of configuration %d = %v, %d, want %d", i, w, err, want)
			}
		}
		if w, err := New(c); w != nil || err != want {
			t.Errorf("P19.1: New of configuration %d = %v, %d, want %d", i, w, err, want)
		}
		if r, err := Run(c, api.Act{Kind: api.ActLeases}, api.Act{}); len(r) != 0 || err != want {
			t.Errorf("P19.2: Run of configuration %d = %v, %d, want %d", i, r, err, want)
		}
	}
}

// isFresh: nothing has happened but what the disk tells.
func (b both) isFresh() {
	b.t.Helper()
	b.check()
	if f := b.flight(); len(f) != 0 {
		b.t.Errorf("P19.1: in flight is %s", brief(f))
	}
	for h := range b.w.hosts {
		if k := b.tables(h); len(k.Routes)+len(k.Neighs)+len(k.Fdbs) != 0 {
			b.t.Errorf("P19.1: host %d has the tables %s", h, brief(k))
		}
		if p := b.pods(h); len(p) != 0 {
			b.t.Errorf("P19.1: host %d has the pods %v", h, p)
		}
		if !same(api.Reply{View: b.view(h)}, api.Reply{}) {
			b.t.Errorf("P19.1: the agent of host %d knows %s", h, brief(b.view(h)))
		}
		if c := b.counts(h); len(c) != api.Verdicts || slices.Max(c) != 0 {
			b.t.Errorf("P19.1: host %d has counted %v", h, c)
		}
		b.no(api.ErrNone, api.Act{Kind: api.ActUnpod, Host: h, Name: "a"})
		b.no(api.ErrUp, api.Act{Kind: api.ActStart, Host: h})
		b.asks(h, api.ReqDump)
		if r := b.reboot(h); r.N != 1 {
			b.t.Errorf("P19.1: host %d had booted %d times", h, r.N-1)
		}
	}
}

func TestP19_1New(t *testing.T) {
	for _, hosts := range []int{1, 2, 3, 63, 64} {
		b := begun(t, config(withHosts(hosts)))
		if r := b.leases(); r.N != 0 || len(r.Leases) != 0 {
			t.Errorf("P19.1: a new world has %s", brief(r))
		}
		if r := b.tick(0); r.N != 0 {
			t.Errorf("P19.1: a new world begins at %d", r.N)
		}
		b = begun(t, config(withHosts(hosts)))
		if d := b.disk(); len(d.A)+len(d.B) != 0 {
			t.Errorf("P19.1: a new world's disk has %x", d)
		}
		b.isFresh()
		b.no(api.ErrHost, api.Act{Kind: api.ActPods, Host: hosts})
		b.ok(api.Act{Kind: api.ActPods, Host: hosts - 1})
	}
}

// worn is a world in which much has happened.
func worn(t *testing.T, c api.Config) both {
	t.Helper()
	b := begun(t, c)
	b.calm()
	b.pod(0, "a")
	b.tick(30)
	b.revoke(1)
	b.round(3)
	b.crash(0)
	b.reboot(2)
	b.send(1, wire(udp(web, cli, 9)))
	b.tick(5)
	return b
}

func TestP19_1AnotherWorldsDisk(t *testing.T) {
	c := config(func(c *api.Config) { c.Reserved = []api.Reserve{{Host: 1, Subnet: sub(9)}} })
	old := worn(t, c)
	d, was, now := old.disk(), old.leases(), old.w.server.clock
	if was.N < 4 || len(was.Leases) == 0 || now != 35 {
		t.Fatalf("the old world is not worn: %s", brief(was))
	}
	b := opened(t, c, d)
	if r := b.leases(); !same(r, was) {
		t.Errorf("P19.1: %s, want %s", brief(r), brief(was))
	}
	if !sameDisk(b.disk(), d) {
		t.Errorf("P19.1: Open changed the disk")
	}
	b.isFresh()
	b = opened(t, c, d)
	if r := b.tick(0); r.N != 35 {
		t.Errorf("P19.1: the time is %d, want 35", r.N)
	}
	b = opened(t, c, d)
	b.calm()
	if r := b.leases(); len(r.Leases) != 3 {
		t.Errorf("P19.1: behind Calm: %s", brief(r))
	}
	old.check()
}

// The clock begins with the vault's tick, ahead of any command: an agent whose lease is due renews at once.
func TestP19_1TheClockBegins(t *testing.T) {
	c := config(withHosts(1))
	old := begun(t, c)
	old.calm()
	old.tick(80)
	b := opened(t, c, old.disk())
	b.asks(0, api.ReqDump, api.ReqSnapshot, api.ReqKernel, api.ReqRenew)
	if l := b.leases().Leases; len(l) != 1 || l[0].Until != 180 {
		t.Errorf("P19.1: %+v", l)
	}
}

func TestP19_1DamagedDisk(t *testing.T) {
	c := config()
	d := worn(t, c).disk()
	if len(d.A) == 0 || len(d.B) != 0 {
		t.Fatalf("the disk is not as the test wants it: %x", d)
	}
	for i := range d.A {
		d.A[i] ^= 4
		if w, err := Open(c, d); w != nil || err != api.ErrDisk {
			t.Errorf("P19.1: with byte %d spoilt: %v, %d", i, w, err)
		}
		d.A[i] ^= 4
	}
	for i := range d.A {
		if w, err := Open(c, api.Disk{A: d.A[:i]}); w == nil || err != api.OK {
			t.Errorf("P19.1: torn behind %d bytes: %v, %d", i, w, err)
		}
	}
	for _, n := range []int{16, 17, 1000} {
		for _, d := range []api.Disk{{A: make([]byte, n)}, {B: make([]byte, n)}, {A: d.A, B: make([]byte, n)}} {
			if w, err := Open(c, d); w != nil || err != api.ErrDisk {
				t.Errorf("P19.1: %d bytes of nothing: %v, %d", n, w, err)
			}
		}
	}
	if w, err := Open(c, api.Disk{A: make([]byte, 15), B: make([]byte, 15)}); w == nil || err != api.OK {
		t.Errorf("P19.1: areas that are short: %v, %d", w, err)
	}
	if w, err := Open(c, api.Disk{A: d.A, B: make([]byte, api.MaxArea+1)}); w != nil || err != api.ErrDisk {
		t.Errorf("P19.1: an area that is too long: %v, %d", w, err)
	}
}

func TestP19_1RecordsThatCannotBe(t *testing.T) {
	log, _, _ := journal.Open(api.Disk{})
	log.Append([]byte{6})
	log.Sync()
	if w, err := Open(config(), log.Crash(0)); w != nil || err != api.ErrState {
		t.Errorf("P19.1: a record that has no form: %v, %d", w, err)
	}
	d := worn(t, config()).disk()
	for _, c := range []api.Config{config(withHosts(1)), config(withMax(1))} {
		_, want := vault.Open(c, d)
		if want == api.OK {
			t.Fatalf("the disk fits another configuration")
		}
		if w, err := Open(c, d); w != nil || err != want {
			t.Errorf("P19.1: the disk of another configuration: %v, %d, want %d", w, err, want)
		}
	}
}

// What is handed to Open is neither changed nor kept.
func TestP0_3OpenKeepsNothing(t *testing.T) {
	c := config(func(c *api.Config) {
		c.Reserved = make([]api.Reserve, 1, 4)
		c.Reserved[0] = api.Reserve{Host: 2, Subnet: sub(200)}
		c.Reserved[:4][2] = api.Reserve{Host: 77}
	})
	disk := worn(t, c).disk()
	mine := api.Disk{A: append(make([]byte, 0, len(disk.A)+9), disk.A...), B: append(make([]byte, 0, 9), disk.B...)}
	w, err := Open(c, mine)
	if err != api.OK {
		t.Fatal(err)
	}
	if !sameDisk(mine, disk) || slices.Max(mine.A[len(mine.A):cap(mine.A)]) != 0 || c.Reserved[:4][2].Host != 77 || c.Reserved[0].Host != 2 {
		t.Errorf("P0.3: Open changed what was handed in")
	}
	m, _ := modelOf(c, disk)
	b := both{t, w, m}
	clear(mine.A[:cap(mine.A)])
	clear(mine.B[:cap(mine.B)])
	c.Reserved[0] = api.Reserve{Host: 1, Subnet: sub(1)}
	b.check()
	b.reopen()
	b.revoke(2)
	b.calm()
	if l := b.leases().Leases; len(l) != 3 || l[2].Subnet != sub(200) || l[2].Host != 2 {
		t.Errorf("P0.3: a reserved subnet that was written over: %+v", l)
	}
	b.check()
}

func TestP19_2Run(t *testing.T) {
	for _, acts := range [][]api.Act{nil, {}} {
		if r, err := Run(config(), acts...); len(r) != 0 || err != api.OK {
			t.Errorf("P19.2: Run of no act = %v, %d", r, err)
		}
	}
	if r, err := Run(config()); len(r) != 0 || err != api.OK {
		t.Errorf("P19.2: Run of no act = %v, %d", r, err)
	}
	if r, err := Run(config(), api.Act{Kind: api.ActTick, N: 9}); err != api.OK || len(r) != 1 || !same(r[0], api.Reply{N: 9}) {
		t.Errorf("P19.2: Run of one act = %v, %d", r, err)
	}
	if r, err := Run(config(), api.Act{}); err != api.OK || len(r) != 1 || !same(r[0], api.Reply{Err: api.ErrArg}) {
		t.Errorf("P19.2: Run of one wrong act = %v, %d", r, err)
	}
	var acts []api.Act
	d := dice(2)
	m, _ := modelOf(config(), api.Disk{})
	var want []api.Reply
	g := grind{r: d, c: config()}
	for range 300 {
		a := g.act(nil)
		acts = append(acts, a)
		want = append(want, twin(m.do(a)))
	}
	got, err := Run(config(), acts...)
	if err != api.OK || len(got) != len(acts) {
		t.Fatalf("P19.2: Run of many: %d replies, %d", len(got), err)
	}
	for i := range got {
		if !same(got[i], want[i]) {
			t.Fatalf("P19.2: reply %d is %s, want %s", i, brief(got[i]), brief(want[i]))
		}
	}
}

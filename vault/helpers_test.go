package vault

import (
	"bytes"
	"encoding/binary"
	"encoding/hex"
	"math"
	"math/rand"
	"slices"
	"strings"
	"testing"

	"weft/api"
	"weft/conf"
	"weft/journal"
	"weft/lease"
)

const maxArea = 1048576

// dice rolls the same way in every run.
func dice() *rand.Rand {
	return rand.New(rand.NewSource(13))
}

func unhex(s string) []byte {
	b, err := hex.DecodeString(strings.ReplaceAll(s, " ", ""))
	if err != nil {
		panic(err)
	}
	return b
}

// joined is parts side by side in new memory.
func joined(parts ...[]byte) []byte {
	return bytes.Join(parts, nil)
}

// nth is the subnet 10.0.n.0/24.
func nth(n int) api.Prefix {
	return api.Prefix{Addr: api.Addr(10<<24 + n<<8), Len: 24}
}

// config is the chapter's configuration.
func config() api.Config {
	return api.Config{
		Network: api.Prefix{Addr: 10 << 24, Len: 16}, SubnetLen: 24, Min: nth(1).Addr, Max: nth(2).Addr,
		VNI: 1, Port: 4789, MTU: 1500, TTL: 5, Renew: 1, Log: 3, Hosts: 4, First: 192<<24 + 168<<16,
		Routes: 64, Neighs: 64, Fdbs: 64, Room: 64, Reserved: []api.Reserve{{Host: 3, Subnet: nth(9)}},
	}
}

// wide is a configuration of so many hosts, with a subnet for each, and a log of so many events.
func wide(hosts, log int) api.Config {
	c := config()
	c.Max, c.Hosts, c.Log, c.Reserved = nth(hosts).Addr, hosts, log, nil
	return c
}

// who is what a host tells of itself.
type who struct {
	pub api.Addr
	mac api.MAC
}

var (
	x = who{pub: 0xc0000201, mac: api.MAC{2, 0, 0, 0, 0, 1}}
	y = who{pub: 0xfffefdfc, mac: api.MAC{0xff, 0x80, 0x7f, 1, 0, 0xfe}}
)

func acquire(host int, w who, wish api.Prefix) api.Cmd {
	return api.Cmd{Kind: api.Acquire, Host: host, Subnet: wish, Pub: w.pub, MAC: w.mac}
}

func renew(host int, subnet api.Prefix) api.Cmd {
	return api.Cmd{Kind: api.Renew, Host: host, Subnet: subnet}
}

func release(host int) api.Cmd { return api.Cmd{Kind: api.Release, Host: host} }

func tick(n int64) api.Cmd { return api.Cmd{Kind: api.Tick, N: n} }

func held(host int, w who, subnet api.Prefix, until, rev int64) api.Lease {
	return api.Lease{Host: host, Subnet: subnet, Pub: w.pub, MAC: w.mac, Until: until, Rev: rev}
}

func added(l api.Lease) api.Event { return api.Event{Rev: l.Rev, Kind: api.Added, Lease: l} }

func removed(rev int64, l api.Lease) api.Event {
	return api.Event{Rev: rev, Kind: api.Removed, Lease: l}
}

// The records' forms, laid out as the chapter's table has them.
type (
	placeForm struct {
		Host uint8
		Addr uint32
		Len  uint8
	}
	ownerForm struct {
		Place placeForm
		Pub   uint32
		MAC   [6]byte
	}
	leaseForm struct {
		Owner      ownerForm
		Until, Rev int64
	}
	eventForm struct {
		Rev   int64
		Kind  uint8
		Lease leaseForm
	}
	acquireForm struct {
		Kind  uint8
		Owner ownerForm
	}
	renewForm struct {
		Kind  uint8
		Place placeForm
	}
	releaseForm struct{ Kind, Host uint8 }
	tickForm    struct {
		Kind uint8
		N    int64
	}
	imageForm struct {
		Kind     uint8
		Rev, Now int64
	}
)

// laid is parts as bytes, each highest byte first.
func laid(parts ...any) []byte {
	var b bytes.Buffer
	for _, p := range parts {
		if err := binary.Write(&b, binary.BigEndian, p); err != nil {
			panic(err)
		}
	}
	return b.Bytes()
}

// fills reads a part that has just these bytes.
func fills(rec []byte, part any) bool {
	if len(rec) != binary.Size(part) {
		return false
	}
	return binary.Read(bytes.NewReader(rec), binary.BigEndian, part) == nil
}

func placeOf(host int, p api.Prefix) placeForm {
	return placeForm{uint8(host), uint32(p.Addr), uint8(p.Len)}
}

func (f placeForm) prefix() api.Prefix {
	return api.Prefix{Addr: api.Addr(f.Addr), Len: int(f.Len)}
}

func leaseOf(l api.Lease) leaseForm {
	return leaseForm{ownerForm{placeOf(l.Host, l.Subnet), uint32(l.Pub), l.MAC}, l.Until, l.Rev}
}

func (f leaseForm) lease() api.Lease {
	o := f.Owner
	return api.Lease{Host: int(o.Place.Host), Subnet: o.Place.prefix(), Pub: api.Addr(o.Pub), MAC: o.MAC, Until: f.Until, Rev: f.Rev}
}

// recordOf is the record of a command that was answered so.
func recordOf(cmd api.Cmd, a api.Answer) []byte {
	switch cmd.Kind {
	case api.Acquire:
		return laid(acquireForm{1, ownerForm{placeOf(cmd.Host, a.Lease.Subnet), uint32(cmd.Pub), cmd.MAC}})
	case api.Renew:
		return laid(renewForm{2, placeOf(cmd.Host, cmd.Subnet)})
	case api.Release:
		return laid(releaseForm{3, uint8(cmd.Host)})
	}
	return laid(tickForm{4, cmd.N})
}

// plain is the record of a command as it stands there, the wish too.
func plain(cmd api.Cmd) []byte {
	return recordOf(cmd, api.Answer{Lease: api.Lease{Subnet: cmd.Subnet}})
}

// imageOf is the record of an Image.
func imageOf(img api.Image) []byte {
	leases, events := make([]leaseForm, len(img.Leases)), make([]eventForm, len(img.Events))
	for i, l := range img.Leases {
		leases[i] = leaseOf(l)
	}
	for i, e := range img.Events {
		events[i] = eventForm{e.Rev, uint8(e.Kind), leaseOf(e.Lease)}
	}
	return laid(imageForm{5, img.Rev, img.Now}, uint16(len(leases)), leases, uint16(len(events)), events)
}

// commandOf is the command of a record, if that has the form of one.
func commandOf(rec []byte) (api.Cmd, bool) {
	var a acquireForm
	var w renewForm
	var l releaseForm
	var t tickForm
	switch {
	case fills(rec, &a) && a.Kind == 1:
		return acquire(int(a.Owner.Place.Host), who{api.Addr(a.Owner.Pub), a.Owner.MAC}, a.Owner.Place.prefix()), true
	case fills(rec, &w) && w.Kind == 2:
		return renew(int(w.Place.Host), w.Place.prefix()), true
	case fills(rec, &l) && l.Kind == 3:
		return release(int(l.Host)), true
	case fills(rec, &t) && t.Kind == 4:
		return tick(t.N), true
	}
	return api.Cmd{}, false
}

// toldImage is the Image of a record, if that has the form of one.
func toldImage(rec []byte) (api.Image, bool) {
	var head imageForm
	if len(rec) < 19 || !fills(rec[:17], &head) || head.Kind != 5 {
		return api.Image{}, false
	}
	img := api.Image{Rev: head.Rev, Now: head.Now}
	leases := make([]leaseForm, binary.BigEndian.Uint16(rec[17:]))
	end := 19 + 32*len(leases)
	if len(rec) < end+2 || !fills(rec[19:end], leases) {
		return api.Image{}, false
	}
	events := make([]eventForm, binary.BigEndian.Uint16(rec[end:]))
	if !fills(rec[end+2:], events) {
		return api.Image{}, false
	}
	for _, f := range leases {
		img.Leases = append(img.Leases, f.lease())
	}
	for _, f := range events {
		img.Events = append(img.Events, api.Event{Rev: f.Rev, Kind: int(f.Kind), Lease: f.Lease.lease()})
	}
	return img, true
}

// records is what a disk's log has.
func records(d api.Disk) [][]byte {
	_, recs, err := journal.Open(d)
	if err != api.OK {
		panic(err)
	}
	return recs
}

// behind counts the records of commands behind the base.
func behind(recs [][]byte) int {
	if len(recs) > 0 && recs[0][0] == 5 {
		return len(recs) - 1
	}
	return len(recs)
}

// based is a disk whose log has these records, all of them in its base.
func based(recs ...[]byte) api.Disk {
	l, _, _ := journal.Open(api.Disk{})
	if l.Rewrite(recs...) != api.OK {
		panic("no room")
	}
	l.Sync()
	return l.Crash(0)
}

// appended is a disk whose log has these records, all of them behind an empty base.
func appended(recs ...[]byte) api.Disk {
	l, _, _ := journal.Open(api.Disk{})
	for _, r := range recs {
		if l.Append(r) != api.OK {
			panic("no room")
		}
	}
	l.Sync()
	return l.Crash(0)
}

// model is the chapter's words: a store, a log, and what was done to them.
type model struct {
	c     api.Config
	first api.Image // of the store, as it was opened
	done  []api.Cmd // those that the store did not refuse
	store *lease.Store
	log   *journal.Log
	armed int
	down  bool
	left  api.Disk // of a write that tore
	whole bool     // it got down whole
}

// opened is the model of Open.
func opened(c api.Config, d api.Disk) (*model, api.Errno) {
	if err := conf.Check(c); err != api.OK {
		return nil, err
	}
	l, recs, err := journal.Open(d)
	if err != api.OK {
		return nil, err
	}
	store, _ := lease.New(c)
	for i, rec := range recs {
		if img, ok := toldImage(rec); ok && i == 0 {
			if store, err = lease.Restore(c, img); err != api.OK {
				return nil, api.ErrState
			}
			continue
		}
		cmd, ok := commandOf(rec)
		if !ok || store.Apply(cmd).Err != api.OK {
			return nil, api.ErrState
		}
	}
	return &model{c: c, first: store.Image(), store: store, log: l, armed: -1}, api.OK
}

func (m *model) do(cmd api.Cmd) api.Answer {
	if m.down {
		return api.Answer{Err: api.ErrDown}
	}
	a := m.store.Apply(cmd)
	if a.Err != api.OK {
		return a
	}
	m.done = append(m.done, cmd)
	if behind(records(m.log.Crash(0))) < 16 {
		m.log.Append(recordOf(cmd, a))
	} else {
		m.log.Rewrite(imageOf(m.store.Image()))
	}
	if m.armed >= 0 {
		m.left, m.down, m.whole = m.log.Crash(m.armed), true, m.log.Dirty() <= m.armed
		return api.Answer{Err: api.ErrDown}
	}
	m.log.Sync()
	return a
}

func (m *model) arm(n int) api.Errno {
	switch {
	case m.down:
		return api.ErrDown
	case n > maxArea:
		return api.ErrArg
	}
	m.armed = max(n, -1)
	return api.OK
}

func (m *model) disk() api.Disk {
	if m.down {
		return m.left
	}
	return m.log.Crash(0)
}

// recovered is the store that must come back from the disk: a fresh one, to which the commands themselves are done.
func (m *model) recovered() *lease.Store {
	s, err := lease.Restore(m.c, m.first)
	if err != api.OK {
		panic(err)
	}
	count := len(m.done)
	if m.down && !m.whole {
		count--
	}
	for _, cmd := range m.done[:count] {
		s.Apply(cmd)
	}
	return s
}

// both does each call on a vault and on its model.
type both struct {
	t *testing.T
	v *Vault
	m *model
}

// begun opens a disk that must be.
func begun(t *testing.T, c api.Config, d api.Disk) both {
	t.Helper()
	m, want := opened(c, d)
	v, err := Open(c, d)
	if err != want || err != api.OK || v == nil {
		t.Fatalf("P13.1: Open(%x | %x) = %v, %d, want %d", d.A, d.B, v, err, want)
	}
	b := both{t, v, m}
	b.check()
	return b
}

// refuses asks for a disk that must not be.
func refuses(t *testing.T, name string, c api.Config, d api.Disk, want api.Errno) {
	t.Helper()
	if _, err := opened(c, d); err != want {
		t.Fatalf("%s: the model answers %d, want %d", name, err, want)
	}
	if v, err := Open(c, d); v != nil || err != want {
		t.Errorf("P13.1: %s: Open = %v, %d, want %d", name, v, err, want)
	}
}

func (b both) do(cmd api.Cmd) api.Answer {
	b.t.Helper()
	a, want := b.v.Do(cmd), b.m.do(cmd)
	if a != want {
		b.t.Fatalf("P13.2: Do(%+v) = %+v, want %+v", cmd, a, want)
	}
	b.check()
	return a
}

// all does commands that must be answered with OK.
func (b both) all(cmds ...api.Cmd) both {
	b.t.Helper()
	for _, cmd := range cmds {
		if a := b.do(cmd); a.Err != api.OK {
			b.t.Fatalf("P13.2: Do(%+v) = %+v", cmd, a)
		}
	}
	return b
}

// times does a command n times.
func (b both) times(n int, cmd api.Cmd) both {
	b.t.Helper()
	for range n {
		b.all(cmd)
	}
	return b
}

func (b both) arm(n int) api.Errno {
	b.t.Helper()
	err, want := b.v.Arm(n), b.m.arm(n)
	if err != want {
		b.t.Fatalf("P13.3: Arm(%d) = %d, want %d", n, err, want)
	}
	b.check()
	return err
}

// check asks all that changes nothing.
func (b both) check() {
	b.t.Helper()
	if b.v.Down() != b.m.down {
		b.t.Fatalf("P13.4: Down = %v", b.v.Down())
	}
	if d, want := b.v.Disk(), b.m.disk(); !sameDisk(d, want) {
		b.t.Fatalf("P13.4: Disk = %x | %x, want %x | %x", d.A, d.B, want.A, want.B)
	}
	if b.m.down {
		b.silent()
		return
	}
	tells(b.t, "P13.5", b.v, b.m.store)
}

// silent asks a vault that is down.
func (b both) silent() {
	b.t.Helper()
	if s, err := b.v.Snapshot(); s.Rev != 0 || s.Now != 0 || s.Leases != nil || err != api.ErrDown {
		b.t.Fatalf("P13.5: Snapshot = %+v, %d", s, err)
	}
	for _, from := range []int64{math.MinInt64, -1, 0, 1, math.MaxInt64} {
		if e, err := b.v.Watch(from, 1); e != nil || err != api.ErrDown {
			b.t.Fatalf("P13.5: Watch(%d, 1) = %+v, %d", from, e, err)
		}
	}
	for _, a := range []api.Addr{0, nth(1).Addr, nth(2).Addr + 7, nth(9).Addr} {
		if l, err := b.v.Holder(a); l != (api.Lease{}) || err != api.ErrDown {
			b.t.Fatalf("P13.5: Holder(%x) = %+v, %d", a, l, err)
		}
	}
}

// tells holds what a vault tells against a store.
func tells(t *testing.T, name string, v *Vault, s *lease.Store) {
	t.Helper()
	snap, want := s.Snapshot(), s.Snapshot()
	got, err := v.Snapshot()
	if err != api.OK || got.Rev != want.Rev || got.Now != want.Now || !slices.Equal(got.Leases, want.Leases) {
		t.Fatalf("%s: Snapshot = %+v, %d, want %+v", name, got, err, want)
	}
	for _, from := range []int64{-1, 0, 1, 2, snap.Rev - 4, snap.Rev - 3, snap.Rev - 2, snap.Rev - 1, snap.Rev, snap.Rev + 1} {
		for _, limit := range []int{0, 1, 2, math.MaxInt} {
			e, err := v.Watch(from, limit)
			f, want := s.Watch(from, limit)
			if err != want || !slices.Equal(e, f) {
				t.Fatalf("%s: Watch(%d, %d) = %+v, %d, want %+v, %d", name, from, limit, e, err, f, want)
			}
		}
	}
	for _, n := range []int{0, 1, 2, 3, 9} {
		a := nth(n).Addr + 77
		l, err := v.Holder(a)
		k, want := s.Holder(a)
		if l != k || err != want {
			t.Fatalf("%s: Holder(%x) = %+v, %d, want %+v, %d", name, a, l, err, k, want)
		}
	}
}

func sameDisk(d, e api.Disk) bool {
	return bytes.Equal(d.A, e.A) && bytes.Equal(d.B, e.B)
}

// again opens what lies on the disk, and holds what comes back against the commands that were done.
func (b both) again() both {
	b.t.Helper()
	d := b.v.Disk()
	v, err := Open(b.m.c, d)
	if err != api.OK {
		b.t.Fatalf("P13.6: Open(%x | %x) = %d", d.A, d.B, err)
	}
	tells(b.t, "P13.6", v, b.m.recovered())
	return begun(b.t, b.m.c, d)
}

// tears does a command whose write tears behind n bytes, and opens what lies there then.
func (b both) tears(n int, cmd api.Cmd) both {
	b.t.Helper()
	b.arm(n)
	if a := b.do(cmd); a != (api.Answer{Err: api.ErrDown}) {
		b.t.Fatalf("P13.2: armed with %d: Do(%+v) = %+v", n, cmd, a)
	}
	return b.again()
}

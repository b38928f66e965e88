package world

import (
	"encoding/binary"
	"slices"
	"testing"

	"weft/api"
	"weft/journal"
	"weft/vault"
)

// imageDisk is a disk whose log has an image alone (doc/13-vault.md), without leases.
func imageDisk(img api.Image) api.Disk {
	b := []byte{5}
	b = binary.BigEndian.AppendUint64(b, uint64(img.Rev))
	b = binary.BigEndian.AppendUint64(b, uint64(img.Now))
	b = binary.BigEndian.AppendUint16(b, 0)
	b = binary.BigEndian.AppendUint16(b, uint16(len(img.Events)))
	for _, ev := range img.Events {
		l := ev.Lease
		b = binary.BigEndian.AppendUint64(b, uint64(ev.Rev))
		b = append(b, byte(ev.Kind), byte(l.Host))
		b = binary.BigEndian.AppendUint32(b, uint32(l.Subnet.Addr))
		b = append(b, byte(l.Subnet.Len))
		b = binary.BigEndian.AppendUint32(b, uint32(l.Pub))
		b = append(b, l.MAC[:]...)
		b = binary.BigEndian.AppendUint64(b, uint64(l.Until))
		b = binary.BigEndian.AppendUint64(b, uint64(l.Rev))
	}
	log, _, _ := journal.Open(api.Disk{})
	log.Rewrite(b)
	log.Sync()
	return log.Crash(0)
}

// writes is worlds, and an act of each that writes.
func writes() map[string]func(t *testing.T) (both, api.Act) {
	settled := func(t *testing.T) both {
		b := begun(t, config())
		b.calm()
		return b
	}
	return map[string]func(t *testing.T) (both, api.Act){
		"the first write": func(t *testing.T) (both, api.Act) {
			return begun(t, config()), api.Act{Kind: api.ActTick, N: 3}
		},
		"Tick": func(t *testing.T) (both, api.Act) { return settled(t), api.Act{Kind: api.ActTick, N: 3} },
		"Tick that ends leases": func(t *testing.T) (both, api.Act) {
			return settled(t), api.Act{Kind: api.ActTick, N: 100}
		},
		"Revoke": func(t *testing.T) (both, api.Act) { return settled(t), api.Act{Kind: api.ActRevoke, Host: 1} },
		"acquire": func(t *testing.T) (both, api.Act) {
			b := begun(t, config())
			b.asks(0, api.ReqDump, api.ReqSnapshot)
			return b, api.Act{Kind: api.ActStep, N: 1}
		},
		"renew": func(t *testing.T) (both, api.Act) {
			b := settled(t)
			b.tick(80)
			return b, api.Act{Kind: api.ActRound, N: 1}
		},
		"an image": func(t *testing.T) (both, api.Act) {
			b := settled(t)
			for range 13 {
				b.tick(1)
			}
			return b, api.Act{Kind: api.ActRevoke, Host: 0}
		},
	}
}

// A tear at each byte of one write: the store is down, and what is opened behind it is all of the write or nothing.
func TestP19_7TearAtEachByte(t *testing.T) {
	for name, make := range writes() {
		b, a := make(t)
		was, disk := b.leases(), b.disk()
		b.do(a)
		after := b.disk()
		whole := 0
		for i, area := range [][2][]byte{{disk.A, after.A}, {disk.B, after.B}} {
			if n := len(area[1]) - len(area[0]); n > 0 {
				whole += n
			} else if i == 1 && len(area[1]) != len(area[0]) {
				whole += len(area[1])
			}
		}
		behind := b.leases()
		if a.Kind == api.ActRound { // of three writes the first one tears
			whole /= 3
		}
		if whole < 14 {
			t.Fatalf("%s writes %d bytes", name, whole)
		}
		for n := 0; n <= whole+2; n++ {
			b, a := make(t)
			b.tear(int64(n))
			clock := b.w.server.clock
			if r := b.do(a); a.Kind != api.ActStep && a.Kind != api.ActRound && r.Err != api.ErrDown {
				t.Fatalf("P19.7: %s, torn behind %d bytes: %s", name, n, brief(r))
			}
			if !b.w.server.Down() || b.w.server.clock != clock {
				t.Fatalf("P19.7: %s, torn behind %d bytes: down %v, clock %d", name, n, b.w.server.Down(), b.w.server.clock)
			}
			b.no(api.ErrDown, api.Act{Kind: api.ActLeases})
			b.check()
			torn := b.disk()
			if r := opened(t, config(), torn).leases(); n < whole && !same(r, was) || n >= whole && a.Kind != api.ActRound && !same(r, behind) {
				t.Errorf("W3: %s, torn behind %d of %d bytes: %s", name, n, whole, brief(r))
			}
			if r := b.reopen(); r.N != was.N && n < whole || r.N != behind.N && n >= whole {
				t.Errorf("P19.7: %s, torn behind %d of %d bytes: Reopen = %s", name, n, whole, brief(r))
			}
			if !sameDisk(b.disk(), torn) {
				t.Errorf("P19.7: Reopen changed the disk")
			}
			b.check()
			b.calm()
			if l := b.leases().Leases; len(l) != 3 {
				t.Errorf("W3: %s, torn behind %d bytes: behind Calm %+v", name, n, l)
			}
			b.check()
		}
	}
}

// What is armed waits for a write: queries, refused commands, and a store that is asked for a snapshot or a watch, let it be.
func TestP19_7TearWaits(t *testing.T) {
	b := begun(t, config())
	b.tear(5)
	b.asks(0, api.ReqDump, api.ReqSnapshot)
	b.no(api.ErrLease, api.Act{Kind: api.ActRevoke})
	b.no(api.ErrArg, api.Act{Kind: api.ActTick, N: -1})
	b.check()
	b.fail(0)
	b.asks(0, api.ReqAcquire)
	if b.w.server.Down() {
		t.Fatalf("P19.7: the store is down, and nothing was written")
	}
	b.tear(7) // in the place of the other
	b.asks(0, api.ReqAcquire)
	if d := b.disk(); len(d.A) != 7 || !b.w.server.Down() {
		t.Errorf("P19.7: torn behind %d bytes", len(d.A))
	}
	b.check()
}

func TestP19_7Reopen(t *testing.T) {
	b := begun(t, config())
	if r := b.reopen(); r.N != 0 {
		t.Errorf("P19.7: Reopen of a new world = %s", brief(r))
	}
	b.calm()
	b.tick(9)
	was := b.leases()
	b.tear(4)
	if r := b.reopen(); r.N != 3 || !same(b.leases(), was) {
		t.Errorf("P19.7: Reopen of a store that is up = %s", brief(r))
	}
	for h := range 3 {
		b.holds(h, -1)
	}
	// It is not armed any more.
	b.tick(1)
	b.check()
	for range 3 {
		b.tear(4)
		b.no(api.ErrDown, api.Act{Kind: api.ActTick, N: 1})
		if r := b.reopen(); r.N != 3 {
			t.Errorf("P19.7: Reopen of a store that is down = %s", brief(r))
		}
		if r := b.tick(0); r.N != 10 {
			t.Errorf("P19.7: the time behind a torn Tick is %d", r.N)
		}
	}
	b.check()
}

// A disk that cannot be opened is none that the acts lead to; it is laid under the world here. The old store stays then, with its hub and the clock.
func TestP19_7ReopenIsRefused(t *testing.T) {
	for _, down := range []bool{false, true} {
		b := cluster(t)
		b.tick(5)
		b.revoke(2)
		b.fail(0)
		b.mute(1)
		b.crash(2)
		foreign, err := vault.Open(config(withHosts(64)), api.Disk{})
		if err != api.OK {
			t.Fatal(err)
		}
		if a := foreign.Do(api.Cmd{Kind: api.Acquire, Host: 50}); a.Err != api.OK {
			t.Fatal(a)
		}
		if down {
			foreign.Arm(1000)
			foreign.Do(api.Cmd{Kind: api.Tick, N: 1})
		}
		s := b.w.server
		s.Vault = foreign
		hub, clock, published := s.hub, s.clock, s.published
		refused := []api.Act{{Kind: api.ActReopen}}
		if down {
			refused = append(refused, api.Act{Kind: api.ActCalm})
		}
		for _, a := range refused {
			if r := b.w.Do(a); !same(r, api.Reply{Err: api.ErrState}) {
				t.Errorf("P19.7: Do(%s) over a disk that cannot be = %s", brief(a), brief(r))
			}
			if s.Vault != foreign || s.hub != hub || s.clock != clock || s.published != published {
				t.Errorf("P19.7: a refused Reopen changed the store")
			}
			if h := b.w.hosts; !h[0].fail || !h[1].mute || h[2].isRunning() {
				t.Errorf("P19.8: a Calm that was refused changed the hosts")
			}
		}
		if got := foreign.Down(); got != down {
			t.Errorf("P19.7: down %v", got)
		}
		b.holds(0, 1)
	}
}

// Every kind of act while the store is down.
func TestP19_7EveryKindWhileDown(t *testing.T) {
	down := []int{api.ActTick, api.ActTear, api.ActRevoke, api.ActLeases, api.ActHolder}
	for kind := api.ActTick; kind <= api.ActDisk; kind++ {
		b := laden(t)
		b.tear(0)
		b.no(api.ErrDown, api.Act{Kind: api.ActTick})
		disk := b.disk()
		if slices.Contains(down, kind) {
			b.no(api.ErrDown, sample(kind))
		} else {
			r := b.ok(sample(kind))
			speaksOf(t, sample(kind), r)
		}
		if up := kind == api.ActCalm || kind == api.ActReopen; up == b.w.server.Down() {
			t.Errorf("P19.7: behind kind %d: down %v", kind, !up)
		}
		if kind != api.ActCalm && !sameDisk(disk, b.disk()) {
			t.Errorf("P19.7: kind %d wrote on the disk of a store that is down", kind)
		}
		b.check()
	}
}

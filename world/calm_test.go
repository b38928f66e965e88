package world

import (
	"testing"

	"weft/api"
)

// rounds: a Calm makes so many.
func (b both) rounds(want int64) {
	b.t.Helper()
	if n := b.calm(); n != want {
		b.t.Errorf("P19.8: Calm makes %d rounds, want %d", n, want)
	}
}

// By hand: each agent reads its kernel, then the snapshot, acquires, sees all leases in one watch (four at most), brings the ways there one entry a round, and is quiet.
func TestP19_8Rounds(t *testing.T) {
	for hosts, want := range map[int]int64{1: 6, 2: 5 + 4, 3: 5 + 7, 4: 5 + 10} {
		b := begun(t, config(withHosts(hosts)))
		b.rounds(want)
		b.rounds(1)
		b.rounds(1)
		b.check()
	}
}

// Every kind of trouble, and how many rounds it takes, worked out by hand.
func TestP19_8BehindTrouble(t *testing.T) {
	for name, x := range map[string]struct {
		trouble func(b both)
		rounds  int64
	}{
		"none":                   {func(b both) {}, 1},
		"fail":                   {func(b both) { b.fail(0); b.fail(2) }, 1},
		"mute":                   {func(b both) { b.mute(0); b.mute(1) }, 1},
		"fail and mute":          {func(b both) { b.mute(0); b.fail(0) }, 1},
		"an armed store":         {func(b both) { b.tear(3) }, 1},
		"a crash":                {func(b both) { b.crash(1) }, 3}, // dump, snapshot, quiet
		"crashes of all":         {func(b both) { b.crash(0); b.crash(1); b.crash(2) }, 3},
		"a new agent":            {func(b both) { b.crash(1); b.start(1) }, 3},
		"a store opened anew":    {func(b both) { b.reopen() }, 1},
		"a tick":                 {func(b both) { b.tick(79) }, 1},
		"a tick to the renewals": {func(b both) { b.tick(80) }, 2}, // renew, quiet
		"a store that is down": {func(b both) {
			b.tear(0)
			b.no(api.ErrDown, api.Act{Kind: api.ActTick, N: 90})
		}, 1},
		"a store that is down behind a whole write": {func(b both) {
			b.tear(999)
			b.no(api.ErrDown, api.Act{Kind: api.ActTick, N: 90})
		}, 2},
		"a revoked lease of the last host": {func(b both) { b.revoke(2) }, 9}, // of host 2: watch, its route, acquire, watch, its route, quiet; of the others: watch, three away, watch, three back, quiet
	} {
		b := begun(t, config())
		b.calm()
		x.trouble(b)
		if n := b.calm(); n != x.rounds {
			t.Errorf("P19.8: behind %s Calm makes %d rounds, want %d", name, n, x.rounds)
		}
		for h := range 3 {
			if v := b.view(h); !v.Synced || v.Degraded || !v.Has || len(v.Leases) != 3 {
				t.Errorf("P19.8: behind %s and Calm host %d knows %s", name, h, brief(v))
			}
			if m := b.w.hosts[h]; m.fail || m.mute {
				t.Errorf("P19.8: behind %s and Calm the flags of host %d are on", name, h)
			}
		}
		b.rounds(1)
		// No write tears.
		b.tick(1)
		b.check()
	}
}

// A Calm takes the flags away ahead of the rounds: no call is lost in it.
func TestP19_8NoCallIsLost(t *testing.T) {
	b := begun(t, config(withHosts(1)))
	b.fail(0)
	b.mute(0)
	b.rounds(6)
}

// What is armed is armed no longer, though no write came in the Calm.
func TestP19_8Disarms(t *testing.T) {
	b := begun(t, config())
	b.calm()
	for n := range int64(3) {
		b.tear(n)
		b.rounds(1)
		b.tick(1)
	}
	// Nor does one in the Calm tear: here three renewals.
	b.tick(80)
	b.tear(0)
	b.rounds(2)
	b.check()
}

// Where an agent has renewed just ahead, a Calm of one round may leave the renewal that is due again to the next one.
func TestW5RenewedJustAhead(t *testing.T) {
	b := begun(t, config(withHosts(1)))
	b.calm()
	b.tick(85)
	b.asks(0, api.ReqRenew)
	b.tick(85)
	b.rounds(1)
	b.rounds(2)
	b.rounds(1)
	b.rounds(1)
}

// deaf is a store that answers nobody.
type deaf struct{ asked int }

func (d *deaf) Snapshot() (api.Snap, api.Errno) {
	d.asked++
	return api.Snap{}, api.ErrDown
}

func (d *deaf) Command(api.Cmd) api.Answer {
	d.asked++
	return api.Answer{Err: api.ErrDown}
}

func (d *deaf) Follow(int, int64, int) ([]api.Event, api.Errno) {
	d.asked++
	return nil, api.ErrDown
}

// Where no round is quiet: so many rounds, and -1.
func TestP19_8Never(t *testing.T) {
	for _, x := range []struct {
		c    api.Config
		want int
	}{
		{config(), 4*(64+64+64) + 16*(8+64) + 64*3 + 128},
		{config(withHosts(1), withTables(1, 2, 3), withLog(4), withRoom(5)), 4*6 + 16*9 + 64 + 128},
		{config(withHosts(2), withTables(256, 5, 1), withLog(1), withRoom(1)), 4*262 + 16*2 + 128 + 128},
		{config(withHosts(5), withTables(5, 5, 256), withLog(256), withRoom(1)), 4*266 + 16*257 + 5*64 + 128},
	} {
		b := begun(t, x.c)
		d := &deaf{}
		b.w.hosts[0].line.store = d
		for range 2 {
			if r := b.w.Do(api.Act{Kind: api.ActCalm}); !same(r, api.Reply{N: -1}) {
				t.Errorf("P19.8: a Calm without an end = %s", brief(r))
			}
		}
		if d.asked != 2*x.want-1 { // the first step of all asks the kernel
			t.Errorf("P19.8: a Calm makes %d rounds at most, want %d", (d.asked+1)/2, x.want)
		}
		if x.c.Hosts == 1 {
			continue
		}
		if r := b.w.Do(api.Act{Kind: api.ActView, Host: 1}); !r.View.Synced || !r.View.Has {
			t.Errorf("P19.8: the other hosts did not go on: %s", brief(r.View))
		}
	}
}

// The last round that may be made counts too.
func TestP19_8TheLastRound(t *testing.T) {
	c := config(withHosts(1), withTables(1, 1, 1), withLog(1), withRoom(1))
	most := 4*3 + 16*2 + 64 + 128
	for _, x := range []struct {
		silent int
		want   int64
	}{{most - 6 - 1, int64(most - 1)}, {most - 6, int64(most)}, {most - 6 + 1, -1}} {
		b := begun(t, c)
		b.w.hosts[0].line.store = &sulky{store: b.w.server, silent: x.silent}
		if r := b.w.Do(api.Act{Kind: api.ActCalm}); !same(r, api.Reply{N: x.want}) {
			t.Errorf("P19.8: with %d calls in vain Calm = %s, want %d", x.silent, brief(r), x.want)
		}
	}
}

// sulky is a store that does not answer the first so many snapshots.
type sulky struct {
	store
	silent int
}

func (s *sulky) Snapshot() (api.Snap, api.Errno) {
	if s.silent > 0 {
		s.silent--
		return api.Snap{}, api.ErrDown
	}
	return s.store.Snapshot()
}

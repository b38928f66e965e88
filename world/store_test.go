package world

import (
	"reflect"
	"testing"

	"weft/api"
	"weft/lease"
	"weft/vault"
)

// holds: host h watches by the hub, and has so many events there that it has not acknowledged; n below 0: it does not.
func (b both) holds(h, n int) {
	b.t.Helper()
	got, _, err := b.w.server.hub.Held(h)
	if n < 0 && err == api.OK || n >= 0 && (err != api.OK || got != n) {
		b.t.Errorf("P19.6: host %d holds %d, %d, want %d", h, got, err, n)
	}
}

// The clock hears of commands that are done, of no others.
func TestP19_4TheClock(t *testing.T) {
	b := begun(t, config())
	clock := func(want int64) {
		t.Helper()
		if got := b.w.server.clock; got != want || b.m.clock != want {
			t.Errorf("P19.4: the clock is %d, want %d", got, want)
		}
	}
	clock(0)
	for _, x := range []struct{ n, now int64 }{{0, 0}, {1, 1}, {7, 8}} {
		if r := b.tick(x.n); r.N != x.now {
			t.Errorf("P19.7: Tick %d = %s, want %d", x.n, brief(r), x.now)
		}
		clock(x.now)
	}
	b.no(api.ErrArg, api.Act{Kind: api.ActTick, N: -1})
	b.no(api.ErrLease, api.Act{Kind: api.ActRevoke})
	clock(8)
	b.calm()
	clock(8)
	// A Tick that gets down whole, but whose answer is lost: the clock does not hear of it till the store is opened anew.
	b.tear(1000)
	b.no(api.ErrDown, api.Act{Kind: api.ActTick, N: 5})
	clock(8)
	b.no(api.ErrDown, api.Act{Kind: api.ActTick, N: 5})
	b.round(2)
	clock(8)
	b.reopen()
	clock(13)
	// One that does not get down.
	b.tear(3)
	b.no(api.ErrDown, api.Act{Kind: api.ActTick, N: 5})
	clock(13)
	b.ok(api.Act{Kind: api.ActCalm})
	clock(13)
	if r := b.tick(api.Never); r.N != api.Never {
		t.Errorf("P0.6: ticks stop at Never: %s", brief(r))
	}
	clock(api.Never)
	b.tick(api.Never)
	clock(api.Never)
	b.calm()
	b.check()
}

// A tick that the store has and the world has not heard of does not make an agent renew.
func TestP19_4AgentsGoByTheClock(t *testing.T) {
	b := begun(t, config(withHosts(1)))
	b.calm()
	b.tear(1000)
	b.no(api.ErrDown, api.Act{Kind: api.ActTick, N: 85})
	b.asks(0, api.ReqWatch, api.ReqWatch)
	b.reopen()
	b.asks(0, api.ReqRenew, api.ReqWatch)
}

// Events are published as they come: each watcher has them at once, by whatever command.
func TestP19_4Published(t *testing.T) {
	b := begun(t, config())
	b.calm()
	for h := range 3 {
		b.holds(h, 0)
	}
	b.tick(1)
	b.holds(0, 0)
	b.revoke(0)
	for h := range 3 {
		b.holds(h, 1)
	}
	b.revoke(1)
	b.holds(2, 2)
	b.tick(100)
	for h := range 3 {
		b.holds(h, 3)
	}
	b.steps(0, 1)
	b.holds(0, 3) // they were handed out, and are held till a later watch acknowledges them
	b.no(api.ErrLease, api.Act{Kind: api.ActRevoke})
	b.holds(1, 3)
	b.calm()
	for h := range 3 {
		b.holds(h, 0)
	}
	b.check()
}

// ending is a world of four hosts at tick 100: the leases of hosts 1 to 3 have just ended, at once, and host 0 has renewed its own, so that it watches next.
func ending(t *testing.T, changes ...func(*api.Config)) both {
	t.Helper()
	b := begun(t, config(append(changes, withHosts(4))...))
	b.calm()
	b.hasRev(4)
	b.tick(85)
	b.asks(0, api.ReqRenew)
	b.tick(15)
	b.hasRev(7)
	return b
}

// More events at once than the log keeps: there is a new hub, without watchers, at the vault's revision.
func TestP19_4EventsNotKept(t *testing.T) {
	for log := 1; log <= 5; log++ {
		b := ending(t, withLog(log))
		for h := range 4 {
			if log >= 3 {
				b.holds(h, 3)
			} else {
				b.holds(h, -1)
			}
		}
		if p := b.w.server.published; p != 7 {
			t.Errorf("P19.4: published up to %d, want 7", p)
		}
		if log >= 3 {
			b.asks(0, api.ReqWatch, api.ReqKernel)
		} else {
			b.asks(0, api.ReqWatch, api.ReqSnapshot, api.ReqKernel)
		}
		b.check()
		// The new hub goes on at the vault's revision.
		b.calm()
		b.hasRev(10)
		for h := range 4 {
			b.holds(h, 0)
		}
		b.revoke(0)
		for h := range 4 {
			b.holds(h, 1)
		}
		b.check()
	}
}

// A watcher that holds more than its room is cut off; it leaves, is answered out of the log, and joins again.
func TestP19_6Lag(t *testing.T) {
	for room := 1; room <= 4; room++ {
		b := ending(t, withRoom(room))
		for h := range 4 {
			if room >= 3 {
				b.holds(h, 3)
			} else {
				b.holds(h, -1)
			}
		}
		b.asks(0, api.ReqWatch)
		if room >= 3 {
			b.holds(0, 3)
		} else {
			b.holds(0, 0) // all three at once: it has seen all
			b.holds(1, -1)
		}
		if v := b.view(0); len(v.Leases) != 1 || v.Cursor != 7 {
			t.Errorf("P19.6: %s", brief(v))
		}
		b.check()
		b.calm()
		b.check()
	}
}

// A log that keeps less than a watcher holds: the hub hands out what the log has let go.
func TestP19_6HubBeyondTheLog(t *testing.T) {
	b := begun(t, config(withLog(1)))
	b.calm()
	for range 3 {
		b.revoke(0)
		b.steps(0, 6) // it loses its way, and acquires anew
	}
	b.hasRev(9)
	b.holds(2, 6)
	before := b.view(2).Cursor
	b.asks(2, api.ReqWatch)
	if v := b.view(2); v.Cursor != before+4 {
		t.Errorf("P19.6: host 2 has followed from %d to %d", before, v.Cursor)
	}
	// Once it has no watcher the log is asked, which keeps one event.
	b.crash(2)
	b.holds(2, -1)
	b.start(2)
	b.reopen()
	b.asks(1, api.ReqWatch, api.ReqSnapshot)
	b.check()
}

// Of a watch by the log a host joins the hub just when it has seen all.
func TestP19_6JoinsAtTheEnd(t *testing.T) {
	for n := range 8 {
		b := begun(t, config(withHosts(2)))
		b.asks(1, api.ReqDump, api.ReqSnapshot, api.ReqAcquire, api.ReqWatch, api.ReqKernel)
		b.reopen()
		b.holds(1, -1)
		b.asks(0, api.ReqDump)
		for i := range n { // so many events, none of which host 1 has seen
			if i%2 == 0 {
				b.grant(0)
			} else {
				b.revoke(0)
			}
		}
		b.hasRev(int64(1 + n))
		for seen := 0; ; {
			b.steps(1, 1)
			seen = int(b.view(1).Cursor) - 1
			if seen == n {
				b.holds(1, 0)
				break
			}
			b.holds(1, -1)
			if seen != 4 {
				t.Fatalf("P19.6: of %d events it has seen %d", n, seen)
			}
			for b.steps(1, 1).Req == api.ReqKernel {
			}
			if b.view(1).Cursor == int64(1+n) {
				b.holds(1, 0)
				break
			}
		}
		b.check()
	}
}

// A watcher whose answer was lost polls from what it knows, and gets the same again.
func TestP19_6LostAnswer(t *testing.T) {
	b := begun(t, config())
	b.calm()
	b.revoke(2)
	b.mute(0)
	b.asks(0, api.ReqWatch)
	b.holds(0, 1)
	if b.view(0).Cursor != 3 {
		t.Errorf("P19.6: %s", brief(b.view(0)))
	}
	b.asks(0, api.ReqWatch)
	if b.view(0).Cursor != 4 {
		t.Errorf("P19.6: %s", brief(b.view(0)))
	}
	b.check()
}

// Where the answer to a watch by the log is lost, the host has joined beyond what it knows: its next poll is out of order, it leaves, and asks the log again.
func TestP19_6JoinedUnheard(t *testing.T) {
	for _, log := range []int{8, 1} {
		b := begun(t, config(withLog(log)))
		b.calm()
		b.reopen()
		b.revoke(2)
		b.mute(0)
		b.asks(0, api.ReqWatch)
		b.holds(0, 0)
		if b.view(0).Cursor != 3 {
			t.Errorf("P19.6: %s", brief(b.view(0)))
		}
		b.asks(0, api.ReqWatch)
		b.holds(0, 0)
		if b.view(0).Cursor != 4 {
			t.Errorf("P19.6: %s", brief(b.view(0)))
		}
		b.check()
	}
}

// grant lets a host acquire past its agent.
func (b both) grant(h int) {
	b.t.Helper()
	cmd := api.Cmd{Kind: api.Acquire, Host: h, Pub: pub(h), MAC: mac(h, 0)}
	if got, want := b.w.server.Command(cmd), b.m.command(cmd); got != want || got.Err != api.OK {
		b.t.Fatalf("P19.4: Command = %+v, want %+v", got, want)
	}
}

// A watcher that is out of order leaves ahead of anything else: what it is told then is of the log, and it is no watcher as long as that does not tell it all.
func TestP19_6LeavesFirst(t *testing.T) {
	b := begun(t, config(withLog(6)))
	b.calm()
	b.reopen()
	b.revoke(2)
	b.mute(0)
	b.asks(0, api.ReqWatch) // joined at 4, and it knows of 3
	b.holds(0, 0)
	for range 2 {
		b.grant(2)
		b.revoke(2)
	}
	b.grant(2)
	b.hasRev(9)
	b.holds(0, 5)
	b.asks(0, api.ReqWatch) // 4 to 7, out of the log
	b.holds(0, -1)
	if v := b.view(0); v.Cursor != 7 {
		t.Errorf("P19.6: %s", brief(v))
	}
	// What the log lets go now is gone for it.
	for range 4 {
		b.revoke(2)
		b.grant(2)
	}
	for b.steps(0, 1).Req == api.ReqKernel {
	}
	b.asks(0, api.ReqSnapshot)
	b.check()
}

// What an agent is told of a store that is down, or of a call that got lost, is ErrDown and nothing else.
func TestP19_5DownAlone(t *testing.T) {
	lost := func(name string, got api.Resp) {
		t.Helper()
		if want := (api.Resp{Err: api.ErrDown}); !reflect.DeepEqual(got, want) {
			t.Errorf("P19.5: %s: %s, want the error alone", name, brief(got))
		}
	}
	for _, req := range []api.Req{{Kind: api.ReqSnapshot}, {Kind: api.ReqWatch, Max: 4}, {Kind: api.ReqAcquire, Cmd: api.Cmd{Kind: api.Acquire, Host: 0}}, {Kind: api.ReqRenew, Cmd: api.Cmd{Kind: api.Renew, Host: 0, Subnet: sub(1)}}} {
		b := begun(t, config())
		b.calm()
		h := b.w.hosts[0]
		h.fail = true
		lost("fail", h.serve(req))
		h.mute = true
		lost("mute", h.serve(req))
		if r := h.serve(req); r.Err != api.OK {
			t.Errorf("P19.5: %s", brief(r))
		}
		b.w.Do(api.Act{Kind: api.ActTear})
		b.w.Do(api.Act{Kind: api.ActTick})
		r := h.serve(req)
		r.Answer.Err = api.OK // a command's Answer tells it too
		lost("a store that is down", r)
	}
}

// Crash, Reboot and Reopen leave no watcher behind.
func TestP19_7WatchersGo(t *testing.T) {
	b := begun(t, config())
	b.calm()
	b.crash(0)
	b.holds(0, -1)
	b.holds(1, 0)
	b.reboot(1)
	b.holds(1, -1)
	b.holds(2, 0)
	b.reopen()
	b.holds(2, -1)
	b.asks(2, api.ReqWatch)
	b.holds(2, 0)
	b.crash(2)
	b.reboot(2)
	b.holds(2, -1)
	b.check()
}

// While the store is down a watch asks nobody, and the hub is as it was.
func TestP19_6Down(t *testing.T) {
	b := begun(t, config())
	b.calm()
	b.revoke(1)
	b.tear(0)
	b.no(api.ErrDown, api.Act{Kind: api.ActTick})
	b.asks(0, api.ReqWatch)
	b.holds(0, 1)
	if v := b.view(0); v.Cursor != 3 || v.Synced {
		t.Errorf("P19.6: %s", brief(v))
	}
	b.crash(0)
	b.holds(0, -1)
	b.reopen()
	b.check()
}

func TestP19_7Leases(t *testing.T) {
	b := begun(t, config())
	b.calm()
	// Ended by time, each at its tick.
	b.tick(40)
	for h := range 2 {
		b.w.server.Command(api.Cmd{Kind: api.Renew, Host: h, Subnet: sub(h + 1)})
		b.m.command(api.Cmd{Kind: api.Renew, Host: h, Subnet: sub(h + 1)})
	}
	b.tick(59)
	b.hasRev(3)
	b.tick(1)
	if r := b.leases(); r.N != 4 || len(r.Leases) != 2 || r.Leases[0].Until != 140 {
		t.Errorf("P19.7: at tick 100: %s", brief(r))
	}
	// Revoked.
	if r := b.revoke(1); r.N != 5 {
		t.Errorf("P19.7: Revoke = %s", brief(r))
	}
	if r := b.leases(); len(r.Leases) != 1 || r.Leases[0].Host != 0 {
		t.Errorf("P19.7: behind Revoke: %s", brief(r))
	}
	b.no(api.ErrLease, api.Act{Kind: api.ActRevoke, Host: 1})
	for a, want := range map[api.Addr]api.Errno{at(1, 0): api.OK, at(1, 255): api.OK, at(0, 255): api.ErrNone, at(2, 0): api.ErrNone} {
		if r := b.do(api.Act{Kind: api.ActHolder, Addr: a}); r.Err != want || want == api.OK && (len(r.Leases) != 1 || r.Leases[0].Host != 0 || r.N != 0) {
			t.Errorf("P19.7: Holder of %08x = %s", a, brief(r))
		}
	}
	b.calm()
	if r := b.leases(); len(r.Leases) != 3 {
		t.Errorf("P19.7: behind Calm: %s", brief(r))
	}
	b.check()
}

// Renewed in time, leases live on.
func TestP19_7Renewed(t *testing.T) {
	b := begun(t, config())
	b.calm()
	for range 20 {
		b.tick(30)
		b.calm()
		b.hasRev(3)
	}
	if l := b.leases().Leases; len(l) != 3 || l[0].Until <= 600 {
		t.Errorf("P19.7: %+v", l)
	}
	b.check()
}

// A world over a disk whose store is at the end of its revisions: commands that would make events are refused, and all goes on.
func TestP19_4TheLastRevision(t *testing.T) {
	c := config()
	for _, before := range []int64{0, 1, 2} {
		d := diskAt(t, c, 1<<40-before)
		b := opened(t, c, d)
		b.hasRev(1<<40 - before)
		b.calm()
		b.hasRev(1 << 40)
		if l := b.leases().Leases; len(l) != int(before) {
			t.Errorf("P19.4: with %d revisions left: %+v", before, l)
		}
		if before > 0 {
			b.no(api.ErrFull, api.Act{Kind: api.ActRevoke})
			b.no(api.ErrFull, api.Act{Kind: api.ActTick, N: 100})
			b.tick(99)
		} else {
			b.no(api.ErrLease, api.Act{Kind: api.ActRevoke})
			b.tick(100)
		}
		b.calm()
		b.reopen()
		b.calm()
		b.check()
	}
}

// diskAt is the disk of a store that has come to a revision, and has no leases.
func diskAt(t *testing.T, c api.Config, rev int64) api.Disk {
	t.Helper()
	img := api.Image{Rev: rev, Now: 3}
	for i := range int64(c.Log) {
		img.Events = append(img.Events, api.Event{Rev: rev - int64(c.Log) + 1 + i, Kind: api.Removed, Lease: api.Lease{Host: int(i) % c.Hosts, Subnet: sub(1 + int(i)%c.Hosts), Rev: 1}})
	}
	if _, err := lease.Restore(c, img); err != api.OK {
		t.Fatalf("the image may not be: %d", err)
	}
	d := imageDisk(img)
	if _, err := vault.Open(c, d); err != api.OK {
		t.Fatalf("the disk may not be: %d", err)
	}
	return d
}

package world

import (
	"testing"

	"weft/api"
)

// readies lead a new world to where host 0 asks next for one kind of request; the store is up, and nothing is lost.
var readies = map[int]func(b both){
	api.ReqDump:     func(b both) {},
	api.ReqSnapshot: func(b both) { b.asks(0, api.ReqDump) },
	api.ReqAcquire:  func(b both) { b.asks(0, api.ReqDump, api.ReqSnapshot) },
	api.ReqWatch:    func(b both) { b.asks(0, api.ReqDump, api.ReqSnapshot, api.ReqAcquire) },
	api.ReqKernel:   func(b both) { b.asks(0, api.ReqDump, api.ReqSnapshot, api.ReqAcquire, api.ReqWatch) },
	api.ReqRenew: func(b both) {
		b.asks(0, api.ReqDump, api.ReqSnapshot, api.ReqAcquire, api.ReqWatch, api.ReqKernel, api.ReqWatch)
		b.tick(80)
	},
}

// calls is the requests that go to the store.
var calls = []int{api.ReqSnapshot, api.ReqAcquire, api.ReqWatch, api.ReqRenew}

// ready is a world whose host 0 asks next for a kind of request.
func ready(t *testing.T, kind int) both {
	t.Helper()
	b := begun(t, config())
	readies[kind](b)
	return b
}

// flags is whether the flags of host 0 are on.
func (b both) flags(fail, mute bool) {
	b.t.Helper()
	if h := b.w.hosts[0]; h.fail != fail || h.mute != mute {
		b.t.Errorf("P19.5: fail %v, mute %v, want %v, %v", h.fail, h.mute, fail, mute)
	}
}

func TestP19_5EveryRequest(t *testing.T) {
	for kind := range readies {
		b := ready(t, kind)
		r := b.steps(0, 1)
		if r.Req != kind || r.N != 0 {
			t.Errorf("P19.5: %s, want the request %d", brief(r), kind)
		}
		b.check()
	}
}

// A call that fails: the store hears nothing, the agent asks again, and that is answered.
func TestP19_5Fail(t *testing.T) {
	for _, kind := range calls {
		b := ready(t, kind)
		was, disk := b.leases(), b.disk()
		b.fail(0)
		b.fail(0)
		b.flags(true, false)
		b.asks(0, kind)
		b.flags(false, false)
		if !same(b.leases(), was) || !sameDisk(b.disk(), disk) {
			t.Errorf("P19.5: the store heard of a call %d that failed", kind)
		}
		b.asks(0, kind)
		b.check()
		b.steps(0, 9)
		b.check()
	}
}

// An answer that is lost: the store has done it, the agent asks again.
func TestP19_5Mute(t *testing.T) {
	for _, kind := range calls {
		b := ready(t, kind)
		was, v := b.leases(), b.view(0)
		b.mute(0)
		b.mute(0)
		b.flags(false, true)
		b.asks(0, kind)
		b.flags(false, false)
		done := kind == api.ReqAcquire || kind == api.ReqRenew
		if same(b.leases(), was) == done {
			t.Errorf("P19.5: a call %d without its answer: %s, was %s", kind, brief(b.leases()), brief(was))
		}
		now := b.view(0)
		v.Synced = false
		if !same(api.Reply{View: now}, api.Reply{View: v}) {
			t.Errorf("P19.5: the agent was told of a lost answer: %s, was %s", brief(now), brief(v))
		}
		b.asks(0, kind)
		b.check()
		b.steps(0, 9)
		b.check()
	}
}

func TestP19_5Both(t *testing.T) {
	for _, order := range []func(b both){func(b both) { b.fail(0); b.mute(0) }, func(b both) { b.mute(0); b.fail(0) }} {
		for _, kind := range calls {
			b := ready(t, kind)
			was := b.leases()
			order(b)
			b.flags(true, true)
			b.asks(0, kind)
			b.flags(false, true)
			if !same(b.leases(), was) {
				t.Errorf("P19.5: fail goes first: %s, was %s", brief(b.leases()), brief(was))
			}
			b.asks(0, kind)
			b.flags(false, false)
			b.asks(0, kind)
			b.check()
		}
	}
}

// What an agent does in its own kernel is no call: the flags wait.
func TestP19_5NoCalls(t *testing.T) {
	for _, kind := range []int{api.ReqDump, api.ReqKernel} {
		b := ready(t, kind)
		was := b.tables(0)
		b.fail(0)
		b.mute(0)
		b.asks(0, kind)
		b.flags(true, true)
		if kind == api.ReqKernel && len(b.tables(0).Routes) != len(was.Routes)+1 {
			t.Errorf("P19.5: the kernel did not do it: %s", brief(b.tables(0)))
		}
		b.check()
		r := b.steps(0, 1)
		b.flags(false, true)
		if r.N != 0 {
			t.Errorf("P19.5: a call that failed was quiet")
		}
		b.steps(0, 1)
		b.flags(false, false)
		b.check()
	}
}

// A quiet watch that fails, or whose answer is lost, is not quiet.
func TestP19_5QuietOnlyIfAnswered(t *testing.T) {
	b := begun(t, config())
	b.calm()
	for _, x := range []struct {
		flag  func(int) api.Reply
		quiet int64
	}{{b.fail, 0}, {b.mute, 0}} {
		x.flag(1)
		if r := b.steps(1, 1); r.N != 0 || r.Req != api.ReqWatch {
			t.Errorf("P19.5: %s", brief(r))
		}
		if r := b.steps(1, 1); r.N != 1 {
			t.Errorf("P19.5: %s", brief(r))
		}
	}
	b.fail(0)
	b.mute(2)
	if r := b.round(1); r.N != 1 {
		t.Errorf("P19.5: a round with two lost calls: %s", brief(r))
	}
	if r := b.round(1); r.N != 3 {
		t.Errorf("P19.5: the round behind it: %s", brief(r))
	}
}

// The flags belong to the host: Crash, Start, Reboot and Reopen leave them as they are; they are each host's own.
func TestP19_5FlagsStay(t *testing.T) {
	for _, x := range []struct{ fail, mute bool }{{true, false}, {false, true}, {true, true}} {
		b := begun(t, config())
		if x.fail {
			b.fail(0)
		}
		if x.mute {
			b.mute(0)
		}
		b.flags(x.fail, x.mute)
		b.crash(0)
		b.flags(x.fail, x.mute)
		b.start(0)
		b.flags(x.fail, x.mute)
		b.reboot(0)
		b.flags(x.fail, x.mute)
		b.crash(0)
		b.reboot(0)
		b.reopen()
		b.steps(1, 9)
		b.flags(x.fail, x.mute)
		for _, h := range []int{1, 2} {
			if m := b.w.hosts[h]; m.fail || m.mute {
				t.Errorf("P19.5: host %d has flags of host 0", h)
			}
		}
		b.calm()
		b.flags(false, false)
	}
}

// While the store is down every call is answered so, and the kernel's requests are done all the same.
func TestP19_5StoreIsDown(t *testing.T) {
	for kind := range readies {
		b := ready(t, kind)
		b.tear(0)
		b.no(api.ErrDown, api.Act{Kind: api.ActTick, N: 50})
		v := b.view(0)
		b.asks(0, kind)
		if kind == api.ReqDump || kind == api.ReqKernel {
			if got, want := b.tables(0), b.view(0).Have; !same(api.Reply{Tables: got}, api.Reply{Tables: want}) {
				t.Errorf("P19.5: request %d while the store is down: %s, want %s", kind, brief(got), brief(want))
			}
			continue
		}
		v.Synced = false
		if now := b.view(0); !same(api.Reply{View: now}, api.Reply{View: v}) {
			t.Errorf("P19.5: the store is down, and the agent knows %s, was %s", brief(now), brief(v))
		}
		b.asks(0, kind, kind, kind)
		b.fail(0)
		b.mute(0)
		b.asks(0, kind)
		b.flags(false, true)
		b.asks(0, kind)
		b.flags(false, false)
		b.check()
		b.reopen()
		b.asks(0, kind)
		b.calm()
		b.check()
	}
}

// Next is asked with the clock: a lease is renewed at the tick that is its Until less Renew, and not ahead of it.
func TestP19_5TheClock(t *testing.T) {
	b := ready(t, api.ReqRenew)
	b.asks(0, api.ReqRenew, api.ReqWatch)
	if l := b.leases().Leases; len(l) != 1 || l[0].Until != 180 {
		t.Errorf("P19.5: renewed: %+v", l)
	}
	b.tick(79)
	b.asks(0, api.ReqWatch)
	b.tick(1)
	b.asks(0, api.ReqRenew)
	if l := b.leases().Leases; len(l) != 1 || l[0].Until != 260 {
		t.Errorf("P19.5: renewed: %+v", l)
	}
}

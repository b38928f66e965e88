package agent

import (
	"weft/api"
	"weft/timer"
)

// rule is one thing that an agent may want: ask tells whether it wants it now, and the request for it.
type rule struct {
	ask func(now int64) (api.Req, bool)
}

// rules is all that an agent may want; one that stands ahead of another goes first.
func (a *Agent) rules() []rule {
	return []rule{
		{ask: a.askDump},
		{ask: a.askSnapshot},
		{ask: a.askKernel},
		{ask: a.askAcquire},
		{ask: a.askRenew},
		{ask: a.askWatch},
	}
}

// Next tells what the agent wants done.
func (a *Agent) Next(now int64) api.Req {
	if a.isOpen() {
		return a.open
	}
	for _, r := range a.rules() {
		if req, wanted := r.ask(now); wanted {
			a.open = req
			break
		}
	}
	return a.open
}

func (a *Agent) askDump(int64) (api.Req, bool) {
	return api.Req{Kind: api.ReqDump}, !a.read
}

func (a *Agent) askSnapshot(int64) (api.Req, bool) {
	return api.Req{Kind: api.ReqSnapshot}, a.stale
}

func (a *Agent) askKernel(int64) (api.Req, bool) {
	ops := a.changes()
	if len(ops) == 0 {
		return api.Req{}, false
	}
	return api.Req{Kind: api.ReqKernel, Op: ops[0]}, true
}

func (a *Agent) askAcquire(int64) (api.Req, bool) {
	cmd := api.Cmd{Kind: api.Acquire, Host: a.self.Host, Subnet: a.wish, Pub: a.self.Pub, MAC: a.self.MAC}
	// Below the granted revision the view cannot show yet what an Acquire has brought.
	return api.Req{Kind: api.ReqAcquire, Cmd: cmd}, !a.isServed() && a.cursor >= a.granted && !a.waiting
}

// isServed tells whether there is an own lease that tells the others where this host is.
func (a *Agent) isServed() bool {
	l, there := a.own()
	return there && l.Pub == a.self.Pub && l.MAC == a.self.MAC
}

func (a *Agent) askRenew(now int64) (api.Req, bool) {
	l, there := a.own()
	if !there || a.last == renewed || l.Until == api.Never || now < timer.After(l.Until, -a.self.Renew) {
		return api.Req{}, false
	}
	cmd := api.Cmd{Kind: api.Renew, Host: a.self.Host, Subnet: l.Subnet}
	return api.Req{Kind: api.ReqRenew, Cmd: cmd}, true
}

func (a *Agent) askWatch(int64) (api.Req, bool) {
	return api.Req{Kind: api.ReqWatch, From: a.cursor, Max: maxBatch}, true
}

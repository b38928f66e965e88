package agent

import (
	"slices"

	"weft/api"
)

// hear takes in an answer that judge let through.
func (a *Agent) hear(r api.Resp) {
	switch a.open.Kind {
	case api.ReqDump:
		a.hearTables(r.Tables)
	case api.ReqSnapshot:
		a.hearSnap(r.Snap)
	case api.ReqKernel:
		a.carryOut(a.open.Op)
	case api.ReqAcquire:
		a.prolong(r.Answer.Lease)
		a.granted = r.Answer.Lease.Rev
		a.wish = r.Answer.Lease.Subnet
	case api.ReqRenew:
		a.prolong(r.Answer.Lease)
	case api.ReqWatch:
		for _, ev := range r.Events {
			a.hearEvent(ev)
		}
	}
}

func (a *Agent) hearTables(t api.Tables) {
	a.have = cloneTables(t)
	a.read = true
	// What an agent ahead of this one had is wished again.
	i := slices.IndexFunc(a.have.Routes, func(r api.Route) bool { return r.Local })
	if i >= 0 {
		a.wish = a.have.Routes[i].Dst
	}
}

func (a *Agent) hearSnap(s api.Snap) {
	a.view = slices.Clone(s.Leases)
	a.cursor = s.Rev
	a.stale = false
	a.waiting = false
	a.skipped = nil
	a.granted = 0
	if l, there := a.own(); there {
		a.wish = l.Subnet
	}
}

// carryOut makes a change in the tables that are held to be there.
func (a *Agent) carryOut(op api.Op) {
	t := &a.have
	switch op.Kind {
	case api.PutRoute:
		t.Routes = put(t.Routes, op.Route, byDst)
	case api.DelRoute:
		t.Routes = drop(t.Routes, op.Route, byDst)
	case api.PutNeigh:
		t.Neighs = put(t.Neighs, op.Neigh, byIP)
	case api.DelNeigh:
		t.Neighs = drop(t.Neighs, op.Neigh, byIP)
	case api.PutFdb:
		t.Fdbs = put(t.Fdbs, op.Fdb, byMAC)
	case api.DelFdb:
		t.Fdbs = drop(t.Fdbs, op.Fdb, byMAC)
	}
}

// prolong moves the end of the own lease to that of a lease which was granted. That is all: another subnet is seen when its event comes.
func (a *Agent) prolong(l api.Lease) {
	i := a.ownPlace()
	if i >= 0 && a.view[i].Subnet == l.Subnet {
		a.view[i].Until = l.Until
	}
}

func (a *Agent) hearEvent(ev api.Event) {
	l := ev.Lease
	if ev.Kind == api.Added {
		a.view = put(a.view, l, bySubnet)
		if a.isOwn(l) {
			a.wish = l.Subnet
		}
	} else {
		a.view = drop(a.view, l, bySubnet)
		a.skipped = drop(a.skipped, l.Subnet, byPrefix)
		a.waiting = false
	}
	a.cursor = ev.Rev
}

// hearRefusal takes in that the open request was not done. An error that says nothing more leaves all as it was.
func (a *Agent) hearRefusal(err api.Errno) {
	switch a.open.Kind {
	case api.ReqKernel:
		if err == api.ErrFull && isPut(a.open.Op) {
			a.degraded = true
			a.skip(a.open.Op)
		}
	case api.ReqAcquire:
		if err == api.ErrFull {
			a.waiting = true
		}
	case api.ReqRenew:
		if err == api.ErrLease {
			a.stale = true
		}
	case api.ReqWatch:
		if isLost(err) {
			a.stale = true
		}
	}
}

// isLost tells whether a Watch was refused because the events behind the cursor are not to be had.
func isLost(err api.Errno) bool {
	switch err {
	case api.ErrCompacted, api.ErrFuture, api.ErrGone, api.ErrLag, api.ErrSeq:
		return true
	}
	return false
}

func isPut(op api.Op) bool {
	return op.Kind == api.PutRoute || op.Kind == api.PutNeigh || op.Kind == api.PutFdb
}

// skip leaves out the leases that a Put was for: their way would be laid by half.
func (a *Agent) skip(op api.Op) {
	for _, l := range a.view {
		if a.needs(l, op) {
			a.skipped = put(a.skipped, l.Subnet, byPrefix)
		}
	}
}

// needs tells whether a Put is for a lease.
func (a *Agent) needs(l api.Lease, op api.Op) bool {
	switch op.Kind {
	case api.PutRoute:
		return l.Subnet == op.Route.Dst
	case api.PutNeigh:
		return !a.isOwn(l) && l.Subnet.Addr == op.Neigh.IP
	}
	return !a.isOwn(l) && l.MAC == op.Fdb.MAC
}

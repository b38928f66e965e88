package agent

import (
	"weft/addr"
	"weft/api"
)

// Done tells it what came of that.
func (a *Agent) Done(r api.Resp) api.Errno {
	if !a.isOpen() {
		return api.ErrTurn
	}
	if err := a.judge(r); err != api.OK {
		return err
	}
	if r.Err == api.OK {
		a.hear(r)
	} else {
		a.hearRefusal(r.Err)
	}
	a.last = outcomeOf(a.open.Kind, r)
	a.open = api.Req{}
	return api.OK
}

func outcomeOf(kind int, r api.Resp) outcome {
	if r.Err != api.OK {
		return other
	}
	switch {
	case kind == api.ReqRenew:
		return renewed
	case kind == api.ReqWatch && len(r.Events) == 0:
		return quiet
	}
	return other
}

// judge tells what is wrong with an answer to the open request. Of one that tells an error nothing else is read.
func (a *Agent) judge(r api.Resp) api.Errno {
	if r.Err != api.OK {
		return api.OK
	}
	ok := true
	switch a.open.Kind {
	case api.ReqDump:
		if !inOrder(r.Tables) {
			return api.ErrTables
		}
	case api.ReqSnapshot:
		ok = canBe(r.Snap)
	case api.ReqAcquire, api.ReqRenew:
		ok = a.isOwn(r.Answer.Lease) && addr.Valid(r.Answer.Lease.Subnet)
	case api.ReqWatch:
		ok = followOn(a.cursor, r.Events)
	}
	if !ok {
		return api.ErrAnswer
	}
	return api.OK
}

// canBe tells whether a snapshot may be.
func canBe(s api.Snap) bool {
	for _, l := range s.Leases {
		if !addr.Valid(l.Subnet) {
			return false
		}
	}
	return s.Rev >= 0 && rises(s.Leases, bySubnet)
}

// followOn tells whether events may be the next ones behind a revision.
func followOn(rev int64, events []api.Event) bool {
	if len(events) > maxBatch {
		return false
	}
	for _, ev := range events {
		if rev == api.Never || ev.Rev != rev+1 || !isChange(ev) {
			return false
		}
		rev = ev.Rev
	}
	return true
}

// isChange tells whether an event tells a change of a lease that may be.
func isChange(ev api.Event) bool {
	return (ev.Kind == api.Added || ev.Kind == api.Removed) && addr.Valid(ev.Lease.Subnet)
}

package world

import "weft/api"

// isCount tells whether n is 1 to most.
func isCount(n int64, most int64) bool { return n >= 1 && n <= most }

func (w *World) tick(n int64) api.Reply {
	answer := w.server.Command(api.Cmd{Kind: api.Tick, N: n})
	return api.Reply{Err: answer.Err, N: answer.Now}
}

func (w *World) tear(n int64) api.Reply {
	if n < 0 || n > api.MaxArea {
		return bare(api.ErrArg)
	}
	return bare(w.server.Arm(int(n)))
}

func (w *World) reopen() api.Reply {
	err := w.server.open(w.server.Disk())
	return api.Reply{Err: err, N: w.server.published}
}

func (w *World) leases() api.Reply {
	snap, err := w.server.Snapshot()
	return api.Reply{Err: err, Leases: snap.Leases, N: snap.Rev}
}

func (w *World) holder(a api.Addr) api.Reply {
	lease, err := w.server.Holder(a)
	return api.Reply{Err: err, Leases: []api.Lease{lease}}
}

func (w *World) revoke(h *host, _ api.Act) api.Reply {
	answer := w.server.Command(api.Cmd{Kind: api.Release, Host: h.self.Host})
	return api.Reply{Err: answer.Err, N: answer.Rev}
}

func (w *World) crash(h *host, _ api.Act) api.Reply {
	if !h.isRunning() {
		return bare(api.ErrStopped)
	}
	w.stopAgent(h)
	return api.Reply{}
}

// stopAgent lets an agent go with all it knew; nobody watches for it any more.
func (w *World) stopAgent(h *host) {
	h.agent = nil
	w.server.hub.Leave(h.self.Host)
}

func (w *World) start(h *host, _ api.Act) api.Reply {
	if h.isRunning() {
		return bare(api.ErrUp)
	}
	h.startAgent()
	return api.Reply{}
}

func (w *World) reboot(h *host, _ api.Act) api.Reply {
	w.stopAgent(h)
	h.boots++
	h.comeUp()
	return api.Reply{N: h.boots}
}

func (w *World) fail(h *host, _ api.Act) api.Reply {
	h.fail = true
	return api.Reply{}
}

func (w *World) mute(h *host, _ api.Act) api.Reply {
	h.mute = true
	return api.Reply{}
}

func (w *World) pod(h *host, a api.Act) api.Reply {
	address, err := h.addPod(a.Name)
	return api.Reply{Err: err, N: int64(address)}
}

func (w *World) unpod(h *host, a api.Act) api.Reply {
	address, err := h.dropPod(a.Name)
	return api.Reply{Err: err, N: int64(address)}
}

func (w *World) tables(h *host, _ api.Act) api.Reply {
	return api.Reply{Tables: h.kernel.Dump()}
}

func (w *World) view(h *host, _ api.Act) api.Reply {
	if !h.isRunning() {
		return bare(api.ErrStopped)
	}
	return api.Reply{View: h.agent.View()}
}

func (w *World) pods(h *host, _ api.Act) api.Reply {
	return api.Reply{Pods: h.path.Bound()}
}

func (w *World) counts(h *host, _ api.Act) api.Reply {
	return api.Reply{Counts: h.path.Counts()}
}

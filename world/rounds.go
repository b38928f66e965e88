package world

import "weft/api"

// notCalm is told where no round was quiet.
const notCalm = -1

// playSteps lets one host's agent make steps.
func (w *World) playSteps(h *host, a api.Act) api.Reply {
	if !isCount(a.N, api.MaxSteps) {
		return bare(api.ErrArg)
	}
	if !h.isRunning() {
		return bare(api.ErrStopped)
	}
	var r api.Reply
	for range a.N {
		kind, quiet := h.step(w.server.clock)
		r.Req = kind
		if quiet {
			r.N++
		}
	}
	return r
}

func (w *World) playRounds(n int64) api.Reply {
	if !isCount(n, api.MaxSteps) {
		return bare(api.ErrArg)
	}
	var r api.Reply
	for range n {
		r.N += w.round()
	}
	return r
}

// round lets each agent that runs make a step: how many of these were quiet.
func (w *World) round() int64 {
	var count int64
	for _, h := range w.hosts {
		if !h.isRunning() {
			continue
		}
		if _, quiet := h.step(w.server.clock); quiet {
			count++
		}
	}
	return count
}

// calm ends all trouble, and lets the agents step till nothing is left to do.
func (w *World) calm() api.Reply {
	if w.server.Down() {
		if r := w.reopen(); r.Err != api.OK {
			return r
		}
	}
	w.server.Arm(-1)
	for _, h := range w.hosts {
		h.fail, h.mute = false, false
		if !h.isRunning() {
			h.startAgent()
		}
	}
	return api.Reply{N: w.settle()}
}

// settle plays rounds up to the first in which every step is quiet, and tells how many. Every agent runs.
func (w *World) settle() int64 {
	for n := range w.calmRounds() {
		if w.round() == int64(len(w.hosts)) {
			return n + 1
		}
	}
	return notCalm
}

// calmRounds is how many rounds a Calm makes at most.
func (w *World) calmRounds() int64 {
	c := w.server.config
	return int64(4*(c.Routes+c.Neighs+c.Fdbs) + 16*(c.Log+c.Room) + 64*c.Hosts + 128)
}

package world

import "weft/api"

func (w *World) send(h *host, a api.Act) api.Reply {
	return w.tell(h, h.path.Send(a.Bytes))
}

func (w *World) raw(h *host, a api.Act) api.Reply {
	return w.tell(h, h.path.Receive(a.Bytes))
}

// tell puts what a host's datapath sends into flight, and tells what became of a packet there. What finds no room in flight is lost.
func (w *World) tell(h *host, res api.Result) api.Reply {
	for i := range res.Local {
		res.Local[i].Host = h.self.Host
	}
	n, _ := w.flight.Put(res.Out...)
	return api.Reply{Verdict: res.Verdict, Why: res.Err, Given: res.Local, N: int64(n)}
}

// deliver takes a packet out of flight, to the host that has the address.
func (w *World) deliver(at int) api.Reply {
	s, err := w.flight.Take(at)
	if err != api.OK {
		return bare(err)
	}
	for _, h := range w.hosts {
		if h.env.Pub == s.To {
			return w.tell(h, h.path.Receive(s.Bytes))
		}
	}
	return bare(api.ErrHost)
}

// flush delivers packets from the first on, as many as n, those too that go to no host.
func (w *World) flush(n int64) api.Reply {
	if !isCount(n, api.MaxFlush) {
		return bare(api.ErrArg)
	}
	var all api.Reply
	for range n {
		r := w.deliver(0)
		if r.Err == api.ErrNone {
			break
		}
		all.N++
		all.Given = append(all.Given, r.Given...)
	}
	return all
}

func (w *World) spoil(a api.Act) api.Reply {
	if len(a.Bytes) != 1 {
		return bare(api.ErrArg)
	}
	return bare(w.flight.Spoil(a.At, int(a.N), a.Bytes[0]))
}

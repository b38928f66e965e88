package world

import (
	"slices"

	"weft/agent"
	"weft/api"
	"weft/ipam"
	"weft/path"
	"weft/tables"
)

// host is one of the machines.
type host struct {
	line
	self   api.Self // its MAC is that of this boot, as env's is
	env    api.Env
	boots  int64
	kernel *tables.Kernel
	path   *path.Path
	agent  *agent.Agent // nil, where none runs
	pods   *ipam.Ipam   // nil, where there are none yet
	subnet api.Prefix   // of the pods' addresses, where there are some
}

// newHost gives a host that has just come up. The configuration is one that may be, and so are all numbers in it.
func newHost(c api.Config, number int, s store) *host {
	pub := c.First + api.Addr(number)
	h := &host{
		line: line{store: s},
		self: api.Self{Host: number, Pub: pub, Renew: c.Renew},
		env:  api.Env{Pub: pub, VNI: c.VNI, Port: c.Port, MTU: c.MTU},
	}
	h.kernel, _ = tables.New(c.Routes, c.Neighs, c.Fdbs)
	h.comeUp()
	return h
}

// comeUp is what a boot does: nothing is left of what was there ahead of it, but how the host reaches the store.
func (h *host) comeUp() {
	h.env.MAC = macOf(h.env.Pub, h.boots)
	h.self.MAC = h.env.MAC
	h.kernel.Flush()
	h.path, _ = path.New(h.env, h.kernel)
	h.pods = nil
	h.startAgent()
}

// macOf is another one at each boot, so that nobody takes the host for what it was.
func macOf(pub api.Addr, boots int64) api.MAC {
	return api.MAC{2, byte(boots), byte(pub >> 24), byte(pub >> 16), byte(pub >> 8), byte(pub)}
}

func (h *host) startAgent() { h.agent, _ = agent.New(h.self) }

func (h *host) isRunning() bool { return h.agent != nil }

// step does the next thing that the agent wants: what kind of request that was, and whether it was quiet.
func (h *host) step(now int64) (kind int, quiet bool) {
	req := h.agent.Next(now)
	resp := h.serve(req)
	h.agent.Done(resp)
	return req.Kind, req.Kind == api.ReqWatch && resp.Err == api.OK && len(resp.Events) == 0
}

// serve does what an agent wants, in the kernel or at the store.
func (h *host) serve(req api.Req) api.Resp {
	switch req.Kind {
	case api.ReqDump:
		return api.Resp{Tables: h.kernel.Dump()}
	case api.ReqKernel:
		_, err := h.kernel.Do(req.Op)
		return api.Resp{Err: err}
	}
	return h.call(h.self.Host, req)
}

// addPod gives a pod an address of the host's subnet.
func (h *host) addPod(name string) (api.Addr, api.Errno) {
	sub, there := h.localSubnet()
	if !there {
		return 0, api.ErrNoSub
	}
	if h.pods == nil || h.subnet != sub {
		if err := h.renewPods(sub); err != api.OK {
			return 0, err
		}
	}
	a, err := h.pods.Add(name)
	if err != api.OK {
		return 0, err
	}
	h.path.Bind(name, a)
	return a, api.OK
}

// localSubnet is the subnet that the kernel holds to be the host's own; false, if there is none.
func (h *host) localSubnet() (api.Prefix, bool) {
	routes := h.kernel.Dump().Routes
	i := slices.IndexFunc(routes, func(r api.Route) bool { return r.Local })
	if i < 0 {
		return api.Prefix{}, false
	}
	return routes[i].Dst, true
}

// renewPods lets all pods go, and takes the next ones' addresses out of a subnet.
func (h *host) renewPods(sub api.Prefix) api.Errno {
	for _, pod := range h.path.Bound() {
		h.path.Unbind(pod.Addr)
	}
	var err api.Errno
	h.pods, err = ipam.New(sub)
	h.subnet = sub
	return err
}

// dropPod takes a pod's address back.
func (h *host) dropPod(name string) (api.Addr, api.Errno) {
	if h.pods == nil {
		return 0, api.ErrNone
	}
	a, err := h.pods.Del(name)
	if err != api.OK {
		return 0, err
	}
	h.path.Unbind(a)
	return a, api.OK
}

package path

import (
	"bytes"
	"slices"

	"weft/api"
	"weft/ip4"
	"weft/tables"
	"weft/tunnel"
)

// model is a datapath by the chapter's words, over bytes: packets are cut, sealed, aged and told about by hand, and the kernel's lines looked through one by one. Of the layers below it asks ip4.Parse and tunnel.Open for their errors, and the kernel for its dump.
type model struct {
	env    api.Env
	k      *tables.Kernel
	pods   []api.Pod // in the order in which they came
	counts [22]int
}

func get16(b []byte) int { return int(b[0])<<8 + int(b[1]) }

func get32(b []byte) api.Addr { return api.Addr(get16(b))<<16 + api.Addr(get16(b[2:])) }

func put16(b []byte, v int) { b[0], b[1] = byte(v>>8), byte(v) }

func put32(b []byte, v api.Addr) {
	put16(b, int(v>>16))
	put16(b[2:], int(v))
}

// inverse is the complement of the ones' complement sum of all words.
func inverse(b []byte) int {
	total := 0
	for i, x := range b {
		total += int(x) << (8 - i%2*8)
	}
	for total > 0xffff {
		total = total>>16 + total&0xffff
	}
	return 0xffff - total
}

// resummed is a packet, or its front, with the right sum in its header.
func resummed(b []byte) []byte {
	b = bytes.Clone(b)
	put16(b[10:], 0)
	put16(b[10:], inverse(b[:headOf(b)]))
	return b
}

// headOf is how long a packet's header is.
func headOf(b []byte) int { return int(b[0]%16) * 4 }

func isPlain(a api.Addr) bool {
	top := a >> 24
	return top != 0 && top != 127 && top < 224
}

func holds(p api.Prefix, a api.Addr) bool {
	return uint64(p.Addr)>>(32-p.Len) == uint64(a)>>(32-p.Len)
}

// way is where an address leads: the longest route that has it, or nil; if it is not local, the neighbour and the entry, or nil.
type way struct {
	route *api.Route
	neigh *api.Neigh
	fdb   *api.Fdb
}

func (m *model) way(a api.Addr) way {
	var w way
	all := m.k.Dump()
	for i, r := range all.Routes {
		if holds(r.Dst, a) && (w.route == nil || r.Dst.Len > w.route.Dst.Len) {
			w.route = &all.Routes[i]
		}
	}
	for i, n := range all.Neighs {
		if w.route != nil && n.IP == w.route.Via {
			w.neigh = &all.Neighs[i]
		}
	}
	for i, f := range all.Fdbs {
		if w.neigh != nil && f.MAC == w.neigh.MAC {
			w.fdb = &all.Fdbs[i]
		}
	}
	return w
}

// place is which address of a local route with room for pods a is, counted from 0 on, and from the end on by -1, -2 ..; else 9.
func place(r api.Route, a api.Addr) int {
	size := uint64(1) << (32 - r.Dst.Len)
	at := uint64(a) - uint64(r.Dst.Addr)
	switch {
	case size < 4:
		return 9
	case at == size-1:
		return -1
	case at < 2:
		return int(at)
	}
	return 9
}

func (m *model) pod(a api.Addr) (api.Pod, bool) {
	i := slices.IndexFunc(m.pods, func(p api.Pod) bool { return p.Addr == a })
	if i < 0 {
		return api.Pod{}, false
	}
	return m.pods[i], true
}

func (m *model) bind(name string, a api.Addr) api.Errno {
	if _, there := m.pod(a); there {
		return 5
	}
	if len(m.pods) == 1024 {
		return 4
	}
	m.pods = append(m.pods, api.Pod{Name: name, Addr: a})
	return 0
}

func (m *model) unbind(a api.Addr) api.Errno {
	if _, there := m.pod(a); !there {
		return 3
	}
	m.pods = slices.DeleteFunc(m.pods, func(p api.Pod) bool { return p.Addr == a })
	return 0
}

func (m *model) bound() []api.Pod {
	list := slices.Clone(m.pods)
	slices.SortFunc(list, func(p, q api.Pod) int { return int(p.Addr) - int(q.Addr) })
	return list
}

func (m *model) send(b []byte) api.Result {
	r := m.fromPod(b)
	m.counts[r.Verdict]++
	return r
}

func (m *model) receive(b []byte) api.Result {
	r := m.fromHost(b)
	m.counts[r.Verdict]++
	return r
}

func (m *model) fromPod(b []byte) api.Result {
	if _, err := ip4.Parse(b); err != 0 {
		return api.Result{Verdict: 1, Err: err}
	}
	b = b[:get16(b[2:])]
	if !isPlain(get32(b[12:])) {
		return api.Result{Verdict: 2}
	}
	if !isPlain(get32(b[16:])) {
		return api.Result{Verdict: 3}
	}
	w := m.way(get32(b[16:]))
	if w.route == nil {
		return m.faulty(4, b, 3, 0, 0)
	}
	if w.route.Local {
		return m.local(b, *w.route)
	}
	if b[8] < 2 {
		return m.faulty(7, b, 11, 0, 0)
	}
	if w.neigh == nil {
		return m.faulty(10, b, 3, 1, 0)
	}
	if w.fdb == nil {
		return m.faulty(11, b, 3, 1, 0)
	}
	if len(b) > m.env.MTU-50 && b[6]&0x40 != 0 {
		return m.faulty(12, b, 3, 4, m.env.MTU-50)
	}
	return api.Result{Verdict: 13, Out: m.sealed(older(b), w)}
}

// older is a packet with its TTL one less.
func older(b []byte) []byte {
	b = bytes.Clone(b)
	b[8]--
	return resummed(b)
}

func (m *model) local(b []byte, route api.Route) api.Result {
	dst := get32(b[16:])
	switch place(route, dst) {
	case 0, -1:
		return api.Result{Verdict: 5}
	case 1:
		r := api.Result{Verdict: 6}
		if body := b[headOf(b):]; b[9] == 1 && get16(b[6:])&0x3fff == 0 && len(body) >= 8 && len(body) <= 65515 && inverse(body) == 0 && body[0] == 8 && body[1] == 0 {
			m.own(&r, b[1], dst, get32(b[12:]), append([]byte{0, 0, 0, 0}, body[4:]...))
		}
		return r
	}
	if b[8] < 2 {
		return m.faulty(7, b, 11, 0, 0)
	}
	pod, there := m.pod(dst)
	if !there {
		return m.faulty(8, b, 3, 1, 0)
	}
	return api.Result{Verdict: 9, Local: []api.Given{{To: dst, Name: pod.Name, Bytes: older(b)}}}
}

func (m *model) fromHost(b []byte) api.Result {
	if _, _, err := tunnel.Open(b); err != 0 {
		return api.Result{Verdict: 14, Err: err}
	}
	if get32(b[16:]) != m.env.Pub {
		return api.Result{Verdict: 15}
	}
	u := b[headOf(b):get16(b[2:])]
	u = u[:get16(u[4:])]
	switch {
	case get16(u[2:]) != m.env.Port:
		return api.Result{Verdict: 16}
	case int(get32(u[12:])>>8) != m.env.VNI:
		return api.Result{Verdict: 17}
	case string(u[16:22]) != string(m.env.MAC[:]):
		return api.Result{Verdict: 18}
	case get16(u[28:]) != 0x0800:
		return api.Result{Verdict: 19}
	}
	in := u[30:]
	if _, err := ip4.Parse(in); err != 0 {
		return api.Result{Verdict: 20, Err: err}
	}
	in = in[:get16(in[2:])]
	if !isPlain(get32(in[12:])) {
		return api.Result{Verdict: 2}
	}
	if !isPlain(get32(in[16:])) {
		return api.Result{Verdict: 3}
	}
	w := m.way(get32(in[16:]))
	if w.route == nil {
		return api.Result{Verdict: 4}
	}
	if !w.route.Local {
		return api.Result{Verdict: 21}
	}
	return m.local(in, *w.route)
}

// faulty is a verdict, with the fault about a packet where there is one.
func (m *model) faulty(verdict int, b []byte, typ, code byte, arg int) api.Result {
	r := api.Result{Verdict: verdict}
	for _, route := range m.k.Dump().Routes {
		if !route.Local || route.Dst.Len > 30 {
			continue
		}
		h := headOf(b)
		tells := b[9] == 1 && (len(b) == h || bytes.IndexByte([]byte{3, 4, 5, 11, 12}, b[h]) >= 0)
		if from := route.Dst.Addr + 1; isPlain(from) && get16(b[6:])&0x1fff == 0 && !tells {
			message := append([]byte{typ, code, 0, 0, 0, 0, byte(arg >> 8), byte(arg)}, resummed(b)[:min(len(b), h+8)]...)
			m.own(&r, 0, from, get32(b[12:]), message)
		}
		break
	}
	return r
}

// own is an own packet, where it gets anywhere. The message has zeros in the place of its sum.
func (m *model) own(r *api.Result, tos byte, src, dst api.Addr, message []byte) {
	put16(message[2:], inverse(message))
	q := make([]byte, 20+len(message))
	q[0], q[1], q[8], q[9] = 0x45, tos, 64, 1
	put16(q[2:], len(q))
	put32(q[12:], src)
	put32(q[16:], dst)
	copy(q[20:], message)
	q = resummed(q)
	w := m.way(dst)
	if w.route == nil {
		return
	}
	if !w.route.Local {
		r.Out = m.sealed(q, w)
		return
	}
	if pod, there := m.pod(dst); there && place(*w.route, dst) == 9 {
		r.Local = []api.Given{{To: dst, Name: pod.Name, Bytes: q}}
	}
}

// sealed is a packet in pieces, each wrapped; none, if the way breaks off.
func (m *model) sealed(b []byte, w way) []api.Sent {
	var list []api.Sent
	if w.fdb == nil {
		return nil
	}
	for _, piece := range cut(b, m.env.MTU-50) {
		list = append(list, api.Sent{To: w.fdb.To, Bytes: wrapped(m.env, w.neigh.MAC, w.fdb.To, piece)})
	}
	return list
}

// cut is a packet in pieces.
func cut(b []byte, mtu int) [][]byte {
	head, body := b[:headOf(b)], b[headOf(b):]
	if len(b) <= mtu {
		return [][]byte{b}
	}
	var list [][]byte
	off, last := get16(b[6:])&0x1fff, get16(b[6:])&0x2000
	for len(head)+len(body) > mtu {
		n := (mtu - len(head)) / 8
		list = append(list, piece(head, 0x2000|off, body[:n*8]))
		off, body, head = off+n, body[n*8:], later(head)
	}
	return append(list, piece(head, last|off, body))
}

func piece(head []byte, flags int, body []byte) []byte {
	b := slices.Concat(head, body)
	b[0] = byte(0x40 + len(head)/4)
	put16(b[2:], len(b))
	put16(b[6:], flags)
	return resummed(b)
}

// later is the header of the pieces behind the first: of its options those that are carried on.
func later(head []byte) []byte {
	out := bytes.Clone(head[:20])
	opts := head[20:]
	for len(opts) > 0 && opts[0] != 0 {
		n := 1
		if opts[0] != 1 {
			n = int(opts[1])
		}
		if opts[0] >= 128 {
			out = append(out, opts[:n]...)
		}
		opts = opts[n:]
	}
	for len(out)%4 != 0 {
		out = append(out, 0)
	}
	return out
}

// wrapped is a piece in its frame, tunnel header, datagram and outer packet.
func wrapped(e api.Env, mac api.MAC, to api.Addr, b []byte) []byte {
	out := make([]byte, 50+len(b))
	copy(out, []byte{0x45, 0, 0, 0, 0, 0, 0x40, 0, 64, 17})
	put16(out[2:], len(out))
	put32(out[12:], e.Pub)
	put32(out[16:], to)
	h := 1
	for _, x := range append(bytes.Clone(b[12:20]), b[9]) {
		h = (h*251 + int(x) + 1) % 65521
	}
	put16(out[20:], 49152+h%16384)
	put16(out[22:], e.Port)
	put16(out[24:], len(out)-20)
	out[28] = 8
	put32(out[32:], api.Addr(e.VNI)<<8)
	copy(out[36:], mac[:])
	copy(out[42:], e.MAC[:])
	out[48] = 8
	copy(out[50:], b)
	return resummed(out)
}

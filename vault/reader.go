package vault

import "weft/api"

// reader takes a record apart from its front on. Where bytes are missing it reads zeros, and knows of it.
type reader struct {
	left  []byte
	short bool
}

// isImage tells whether a record begins like that of an Image.
func isImage(rec []byte) bool {
	return len(rec) > 0 && rec[0] == imageKind
}

// readCommand reads the record of a command.
func readCommand(rec []byte) (api.Cmd, error) {
	r := reader{left: rec}
	cmd := api.Cmd{Kind: r.small()}
	switch cmd.Kind {
	case api.Acquire:
		cmd.Host, cmd.Subnet = r.place()
		cmd.Pub, cmd.MAC = r.who()
	case api.Renew:
		cmd.Host, cmd.Subnet = r.place()
	case api.Release:
		cmd.Host = r.small()
	case api.Tick:
		cmd.N = r.long()
	default:
		return api.Cmd{}, errRecord
	}
	return cmd, r.end()
}

// readImage reads a record that begins like that of an Image.
func readImage(rec []byte) (api.Image, error) {
	r := reader{left: rec[1:]}
	img := api.Image{Rev: r.long(), Now: r.long()}
	img.Leases = many(&r, r.lease)
	img.Events = many(&r, r.event)
	return img, r.end()
}

// many reads a number, and as many parts.
func many[T any](r *reader, part func() T) []T {
	list := make([]T, r.number(countLen))
	for i := range list {
		list[i] = part()
	}
	return list
}

func (r *reader) event() api.Event {
	return api.Event{Rev: r.long(), Kind: r.small(), Lease: r.lease()}
}

func (r *reader) lease() api.Lease {
	var l api.Lease
	l.Host, l.Subnet = r.place()
	l.Pub, l.MAC = r.who()
	l.Until, l.Rev = r.long(), r.long()
	return l
}

func (r *reader) place() (int, api.Prefix) {
	return r.small(), api.Prefix{Addr: r.addr(), Len: r.small()}
}

func (r *reader) who() (api.Addr, api.MAC) {
	pub := r.addr()
	var mac api.MAC
	copy(mac[:], r.take(len(mac)))
	return pub, mac
}

func (r *reader) addr() api.Addr { return api.Addr(r.number(addrLen)) }

func (r *reader) long() int64 { return int64(r.number(longLen)) }

func (r *reader) small() int { return int(r.number(1)) }

// number reads a number of so many bytes, the highest first.
func (r *reader) number(bytes int) uint64 {
	n := uint64(0)
	for _, b := range r.take(bytes) {
		n = n<<8 | uint64(b)
	}
	return n
}

// take gives the next so many bytes; none, if there are fewer.
func (r *reader) take(bytes int) []byte {
	if len(r.left) < bytes {
		r.short = true
		return nil
	}
	taken := r.left[:bytes]
	r.left = r.left[bytes:]
	return taken
}

// end tells whether the record had a form: no byte was missing, and none is left.
func (r *reader) end() error {
	if r.short || len(r.left) > 0 {
		return errRecord
	}
	return nil
}

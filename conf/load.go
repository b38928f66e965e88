package conf

import (
	"slices"
	"strconv"

	"weft/addr"
	"weft/api"
)

// maxDigits bounds a configuration's numbers, so that each fits an int.
const maxDigits = 15

// entry is a key that may stand in an object.
type entry struct {
	key  string
	kind int
	put  func(n api.Node) // puts the value into its field
	fill func()           // puts the default there; nil where the key must stand in the object
}

// walker goes through the nodes of a text that has been read, from the first on, and gives up at the first that may not stand there.
type walker struct {
	rest []api.Node
}

// Load reads a configuration.
func Load(text string) (c api.Config, err api.Errno) {
	nodes, _, err := Parse(text)
	if err != api.OK {
		return api.Config{}, err
	}
	defer func() {
		if x := recover(); x != nil {
			f := x.(fault)
			c, err = api.Config{}, f.err
		}
	}()
	w := walker{rest: nodes}
	c = w.config()
	if err := Check(c); err != api.OK {
		return api.Config{}, err
	}
	return c, api.OK
}

func (w *walker) config() api.Config {
	var c api.Config
	w.object([]entry{
		{"network", api.KString, func(n api.Node) { c.Network = prefix(n) }, nil},
		{"subnetLen", api.KNumber, func(n api.Node) { c.SubnetLen = number(n) }, nil},
		{"hosts", api.KNumber, func(n api.Node) { c.Hosts = number(n) }, nil},
		{"first", api.KString, func(n api.Node) { c.First = address(n) }, nil},
		{"min", api.KString, func(n api.Node) { c.Min = address(n) }, func() { c.Min = c.Network.Addr }},
		{"max", api.KString, func(n api.Node) { c.Max = address(n) }, func() { c.Max = lastSubnet(c) }},
		{"vni", api.KNumber, func(n api.Node) { c.VNI = number(n) }, func() { c.VNI = 1 }},
		{"port", api.KNumber, func(n api.Node) { c.Port = number(n) }, func() { c.Port = 4789 }},
		{"mtu", api.KNumber, func(n api.Node) { c.MTU = number(n) }, func() { c.MTU = 1500 }},
		// Ahead of renew, whose default hangs on it: defaults are filled in from the first entry on.
		{"ttl", api.KNumber, func(n api.Node) { c.TTL = int64(number(n)) }, func() { c.TTL = 24 }},
		{"renew", api.KNumber, func(n api.Node) { c.Renew = int64(number(n)) }, func() { c.Renew = max(c.TTL/3, 1) }},
		{"log", api.KNumber, func(n api.Node) { c.Log = number(n) }, func() { c.Log = 64 }},
		{"routes", api.KNumber, func(n api.Node) { c.Routes = number(n) }, func() { c.Routes = 64 }},
		{"neighs", api.KNumber, func(n api.Node) { c.Neighs = number(n) }, func() { c.Neighs = 64 }},
		{"fdbs", api.KNumber, func(n api.Node) { c.Fdbs = number(n) }, func() { c.Fdbs = 64 }},
		{"room", api.KNumber, func(n api.Node) { c.Room = number(n) }, func() { c.Room = 64 }},
		{"reserved", api.KArray, func(n api.Node) { c.Reserved = w.reserved(n.Size) }, func() { c.Reserved = nil }},
	})
	return c
}

// reserved goes through the elements of a list of reserved subnets.
func (w *walker) reserved(size int) []api.Reserve {
	var list []api.Reserve
	for range size {
		var r api.Reserve
		w.object([]entry{
			{"host", api.KNumber, func(n api.Node) { r.Host = number(n) }, nil},
			{"subnet", api.KString, func(n api.Node) { r.Subnet = prefix(n) }, nil},
		})
		list = append(list, r)
	}
	return list
}

// take is the next node. There is one wherever an object or array says so: the text has been read whole.
func (w *walker) take() api.Node {
	n := w.rest[0]
	w.rest = w.rest[1:]
	return n
}

// object goes through an object whose keys are those of the entries, and fills in what does not stand there.
func (w *walker) object(entries []entry) {
	n := w.take()
	if n.Kind != api.KObject {
		giveUp(api.ErrKind)
	}
	stands := make([]bool, len(entries))
	for range n.Size {
		member := w.take()
		i := slices.IndexFunc(entries, func(e entry) bool { return e.key == member.Key })
		if i < 0 {
			giveUp(api.ErrKey)
		}
		if member.Kind != entries[i].kind {
			giveUp(api.ErrKind)
		}
		entries[i].put(member)
		stands[i] = true
	}
	for i, e := range entries {
		if stands[i] {
			continue
		}
		if e.fill == nil {
			giveUp(api.ErrMissing)
		}
		e.fill()
	}
}

func number(n api.Node) int {
	if len(n.Text) > maxDigits || digitsEnd(n.Text, 0) < len(n.Text) {
		giveUp(api.ErrValue)
	}
	value, _ := strconv.Atoi(n.Text)
	return value
}

func address(n api.Node) api.Addr {
	a, err := addr.Parse(n.Text)
	if err != api.OK {
		giveUp(api.ErrValue)
	}
	return a
}

func prefix(n api.Node) api.Prefix {
	p, err := addr.ParsePrefix(n.Text)
	if err != api.OK {
		giveUp(api.ErrValue)
	}
	return p
}

// lastSubnet is the base of the network's last subnet: the network's last address less a subnet's other addresses. Its lengths are as they were read, perhaps too great, never below 0.
func lastSubnet(c api.Config) api.Addr {
	all := ^api.Addr(0)
	return c.Network.Addr + all>>c.Network.Len - all>>c.SubnetLen
}

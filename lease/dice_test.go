package lease

import (
	"math"
	"math/rand"

	"weft/api"
)

// rolled is a configuration with few subnets, hosts and events.
func rolled(r *rand.Rand) api.Config {
	c := config()
	c.Network = api.Prefix{Addr: 10 << 24, Len: 16 + r.Intn(9)}
	c.SubnetLen = c.Network.Len + 1 + r.Intn(4)
	count := 1 << (c.SubnetLen - c.Network.Len)
	low := r.Intn(count)
	high := low + r.Intn(count-low)
	c.Min, c.Max = place(c, low).Addr, place(c, high).Addr
	c.TTL, c.Log, c.Hosts = int64(2+r.Intn(6)), 1+r.Intn(6), 1+r.Intn(7)
	c.Reserved = nil
	subnets := r.Perm(count)
	for h := range c.Hosts {
		if r.Intn(4) == 0 && len(c.Reserved) < count {
			c.Reserved = append(c.Reserved, api.Reserve{Host: h, Subnet: place(c, subnets[len(c.Reserved)])})
		}
	}
	return c
}

// place is the i-th subnet of a network.
func place(c api.Config, i int) api.Prefix {
	return api.Prefix{Addr: c.Network.Addr + api.Addr(i)<<(32-c.SubnetLen), Len: c.SubnetLen}
}

func anyWho(r *rand.Rand) who {
	return []who{x, y, {pub: x.pub, mac: y.mac}, {}}[r.Intn(4)]
}

// anyPrefix is mostly a subnet, of the network or beside it.
func anyPrefix(r *rand.Rand, c api.Config) api.Prefix {
	p := place(c, r.Intn(20)-2)
	switch r.Intn(10) {
	case 0:
		p.Len += r.Intn(3) - 1
	case 1:
		p.Addr += api.Addr(r.Intn(5))
	case 2:
		p = api.Prefix{Addr: api.Addr(r.Uint32()), Len: int(r.Uint64())}
	}
	return p
}

// anyCmd is any command, mostly one that may be.
func anyCmd(r *rand.Rand, m *model) api.Cmd {
	w := anyWho(r)
	cmd := api.Cmd{Kind: []int{1, 1, 1, 1, 2, 2, 2, 3, 4, 4}[r.Intn(10)], Host: r.Intn(m.c.Hosts), Subnet: anyPrefix(r, m.c), Pub: w.pub, MAC: w.mac, N: int64(r.Intn(4))}
	if i := m.leaseOf(cmd.Host); i >= 0 && cmd.Kind == api.Renew && r.Intn(4) > 0 {
		cmd.Subnet = m.live[i].Subnet
	}
	if cmd.Kind == api.Tick && r.Intn(6) == 0 {
		cmd.N = int64(r.Intn(12))
	}
	switch r.Intn(60) {
	case 0:
		cmd.Kind = r.Intn(8) - 1
	case 1:
		cmd.Host = r.Intn(m.c.Hosts+4) - 2
	case 2:
		cmd.Host = int(r.Uint64())
	case 3:
		cmd.N = -cmd.N
	}
	if r.Intn(400) == 0 {
		cmd.N = math.MaxInt64 - int64(r.Intn(9))
	}
	return cmd
}

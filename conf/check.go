package conf

import (
	"weft/addr"
	"weft/api"
)

// Check tells whether a configuration may be.
func Check(c api.Config) api.Errno {
	if !numbersFit(c) || !addressesFit(c) {
		return api.ErrValue
	}
	if c.Min > c.Max || hostInNetwork(c) || !reservedFit(c) {
		return api.ErrPool
	}
	return api.OK
}

// numbersFit tells whether each plain number is in its range.
func numbersFit(c api.Config) bool {
	for _, row := range []struct{ value, least, most int64 }{
		{int64(c.VNI), 0, 1<<24 - 1},
		{int64(c.Port), 1, 1<<16 - 1},
		{int64(c.MTU), 126, 9000},
		{c.TTL, 2, 1 << 40},
		{c.Renew, 1, c.TTL - 1},
		{int64(c.Log), 1, 256},
		{int64(c.Hosts), 1, api.MaxHosts},
		{int64(c.Routes), 1, 256},
		{int64(c.Neighs), 1, 256},
		{int64(c.Fdbs), 1, 256},
		{int64(c.Room), 1, 256},
	} {
		if row.value < row.least || row.value > row.most {
			return false
		}
	}
	return true
}

// addressesFit tells whether the network, its subnets and the hosts' addresses are such as may be. The number of hosts is in its range.
func addressesFit(c api.Config) bool {
	n := c.Network
	if !addr.Valid(n) || n.Len < 8 || n.Len > 28 || addr.Class(n.Addr) != 0 {
		return false
	}
	if c.SubnetLen <= n.Len || c.SubnetLen > 30 {
		return false
	}
	return isSubnet(c, c.Min) && isSubnet(c, c.Max) && hostsPlain(c)
}

// isSubnet tells whether a is the base of a subnet of the network.
func isSubnet(c api.Config, a api.Addr) bool {
	return addr.Valid(api.Prefix{Addr: a, Len: c.SubnetLen}) && addr.Contains(c.Network, a)
}

// hostsPlain tells whether each host has an address of class 0.
func hostsPlain(c api.Config) bool {
	for h := range c.Hosts {
		a := c.First + api.Addr(h)
		// Below First it has left the 32 bits.
		if a < c.First || addr.Class(a) != 0 {
			return false
		}
	}
	return true
}

func hostInNetwork(c api.Config) bool {
	for h := range c.Hosts {
		if addr.Contains(c.Network, c.First+api.Addr(h)) {
			return true
		}
	}
	return false
}

// reservedFit tells whether the reserved subnets are subnets of the network, none twice, for hosts that rise. The list is not gone through far: there are few hosts to rise through.
func reservedFit(c api.Config) bool {
	last := -1
	seen := map[api.Addr]struct{}{}
	for _, r := range c.Reserved {
		if r.Host <= last || r.Host >= c.Hosts {
			return false
		}
		if r.Subnet.Len != c.SubnetLen || !isSubnet(c, r.Subnet.Addr) {
			return false
		}
		if _, twice := seen[r.Subnet.Addr]; twice {
			return false
		}
		last = r.Host
		seen[r.Subnet.Addr] = struct{}{}
	}
	return true
}

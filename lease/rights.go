package lease

import (
	"weft/addr"
	"weft/api"
)

// rights is which subnets a host may have.
type rights struct {
	sublen    int
	low, high api.Addr           // of the subnets that are for everyone: both lie in the network
	reserved  map[int]api.Prefix // by host
}

func rightsOf(c api.Config) rights {
	r := rights{sublen: c.SubnetLen, low: c.Min, high: c.Max, reserved: map[int]api.Prefix{}}
	for _, own := range c.Reserved {
		r.reserved[own.Host] = own.Subnet
	}
	return r
}

// may tells whether a host may have a subnet.
func (r rights) may(host int, subnet api.Prefix) bool {
	if own, ok := r.reserved[host]; ok {
		return subnet == own
	}
	return r.common(subnet) && !r.isReserved(subnet)
}

// common tells whether a prefix is a subnet from low to high.
func (r rights) common(p api.Prefix) bool {
	return p.Len == r.sublen && addr.Valid(p) && r.low <= p.Addr && p.Addr <= r.high
}

// isReserved tells whether a subnet is reserved for some host.
func (r rights) isReserved(subnet api.Prefix) bool {
	for _, own := range r.reserved {
		if own == subnet {
			return true
		}
	}
	return false
}

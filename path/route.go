package path

import (
	"weft/addr"
	"weft/api"
)

// maxEdged is the greatest length of a local route that has broadcast addresses and a gateway: in a longer one nothing would be left for pods.
const maxEdged = 30

// edges is the addresses of a local route that are no pod's.
type edges struct {
	first, gateway, last api.Addr
}

// edgesOf is a local route's edges; false, if it has none.
func edgesOf(route api.Prefix) (edges, bool) {
	first, last, err := addr.Span(route)
	if err != api.OK || route.Len > maxEdged {
		return edges{}, false
	}
	return edges{first: first, gateway: first + 1, last: last}, true
}

func isBroadcast(route api.Prefix, a api.Addr) bool {
	e, edged := edgesOf(route)
	return edged && (a == e.first || a == e.last)
}

func isGateway(route api.Prefix, a api.Addr) bool {
	e, edged := edgesOf(route)
	return edged && a == e.gateway
}

// gateway is the address from which the host tells faults; false, if it has none.
func (p *Path) gateway() (api.Addr, bool) {
	for _, r := range p.kernel.Dump().Routes {
		if e, edged := edgesOf(r.Dst); edged && r.Local {
			return e.gateway, true
		}
	}
	return 0, false
}

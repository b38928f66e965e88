package agent

import (
	"weft/addr"
	"weft/api"
)

// Plan is the tables that a host should have.
func Plan(leases []api.Lease, host int) api.Tables {
	var t api.Tables
	for _, l := range leases {
		if !addr.Valid(l.Subnet) {
			continue
		}
		if l.Host == host {
			t.Routes = append(t.Routes, api.Route{Dst: l.Subnet, Local: true})
			continue
		}
		// The base address of a subnet stands for its host: no pod ever has it.
		gate := l.Subnet.Addr
		t.Routes = append(t.Routes, api.Route{Dst: l.Subnet, Via: gate})
		t.Neighs = append(t.Neighs, api.Neigh{IP: gate, MAC: l.MAC})
		t.Fdbs = append(t.Fdbs, api.Fdb{MAC: l.MAC, To: l.Pub})
	}
	return api.Tables{
		Routes: lastOfEach(t.Routes, byDst),
		Neighs: lastOfEach(t.Neighs, byIP),
		Fdbs:   lastOfEach(t.Fdbs, byMAC),
	}
}

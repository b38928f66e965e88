package conf

import (
	"strconv"

	"weft/addr"
	"weft/api"
)

// Save writes a configuration.
func Save(c api.Config) (string, api.Errno) {
	if err := Check(c); err != api.OK {
		return "", err
	}
	return Print(append(membersOf(c), reservedOf(c.Reserved)...))
}

// membersOf is the node of a configuration's object and those of its members, but for the last one, the reserved subnets.
func membersOf(c api.Config) []api.Node {
	members := []api.Node{
		prefixNode("network", c.Network),
		numberNode("subnetLen", int64(c.SubnetLen)),
		addressNode("min", c.Min),
		addressNode("max", c.Max),
		numberNode("vni", int64(c.VNI)),
		numberNode("port", int64(c.Port)),
		numberNode("mtu", int64(c.MTU)),
		numberNode("ttl", c.TTL),
		numberNode("renew", c.Renew),
		numberNode("log", int64(c.Log)),
		numberNode("hosts", int64(c.Hosts)),
		addressNode("first", c.First),
		numberNode("routes", int64(c.Routes)),
		numberNode("neighs", int64(c.Neighs)),
		numberNode("fdbs", int64(c.Fdbs)),
		numberNode("room", int64(c.Room)),
	}
	object := api.Node{Kind: api.KObject, Size: len(members) + 1}
	return append([]api.Node{object}, members...)
}

func reservedOf(list []api.Reserve) []api.Node {
	nodes := []api.Node{{Kind: api.KArray, Key: "reserved", Size: len(list)}}
	for _, r := range list {
		nodes = append(nodes,
			api.Node{Kind: api.KObject, Size: 2},
			numberNode("host", int64(r.Host)),
			prefixNode("subnet", r.Subnet))
	}
	return nodes
}

func numberNode(key string, n int64) api.Node {
	return api.Node{Kind: api.KNumber, Key: key, Text: strconv.FormatInt(n, 10)}
}

func addressNode(key string, a api.Addr) api.Node {
	return api.Node{Kind: api.KString, Key: key, Text: addr.Format(a)}
}

// prefixNode is asked of valid prefixes alone.
func prefixNode(key string, p api.Prefix) api.Node {
	text, _ := addr.FormatPrefix(p)
	return api.Node{Kind: api.KString, Key: key, Text: text}
}

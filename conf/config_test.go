package conf

import (
	"fmt"
	"math"
	"math/rand"
	"reflect"
	"slices"
	"strings"
	"testing"

	"weft/api"
)

func quad(a, b, c, d int) api.Addr { return api.Addr(a<<24 + b<<16 + c<<8 + d) }

func subnet(a, b, c, d, n int) api.Prefix { return api.Prefix{Addr: quad(a, b, c, d), Len: n} }

func keep(host int, p api.Prefix) api.Reserve { return api.Reserve{Host: host, Subnet: p} }

// plain is what the shortest text says.
func plain() api.Config {
	return api.Config{
		Network: subnet(10, 0, 0, 0, 16), SubnetLen: 24, Min: quad(10, 0, 0, 0), Max: quad(10, 0, 255, 0), VNI: 1, Port: 4789, MTU: 1500, TTL: 24, Renew: 8,
		Log: 64, Hosts: 2, First: quad(192, 168, 0, 1), Routes: 64, Neighs: 64, Fdbs: 64, Room: 64,
	}
}

// changed is the plain configuration with a change.
func changed(change func(c *api.Config)) api.Config {
	c := plain()
	change(&c)
	return c
}

const shortest = `"network":"10.0.0.0/16","subnetLen":24,"hosts":2,"first":"192.168.0.1"`

func same(c, d api.Config) bool {
	if len(c.Reserved) == 0 && len(d.Reserved) == 0 {
		c.Reserved, d.Reserved = nil, nil
	}
	return reflect.DeepEqual(c, d)
}

func checkCheck(t *testing.T, want api.Errno, c api.Config) {
	t.Helper()
	if err := Check(c); err != want {
		t.Errorf("P2.4: Check(%+v) = %d, want %d", c, err, want)
	}
	text, err := Save(c)
	if err != want || (err == api.OK) != (text != "") {
		t.Errorf("P2.5: Save(%+v) = %q, %d, want %d", c, text, err, want)
	}
}

func checkLoad(t *testing.T, text string, want api.Config, wantErr api.Errno) {
	t.Helper()
	if c, err := Load(text); !same(c, want) || err != wantErr {
		t.Errorf("P2.3: Load(%.200q) = %+v, %d, want %+v, %d", text, c, err, want, wantErr)
	}
}

func TestP2_4Ranges(t *testing.T) {
	for _, row := range []struct {
		name        string
		put         func(c *api.Config, n int)
		least, most int
	}{
		{"VNI", func(c *api.Config, n int) { c.VNI = n }, 0, 16777215},
		{"Port", func(c *api.Config, n int) { c.Port = n }, 1, 65535},
		{"MTU", func(c *api.Config, n int) { c.MTU = n }, 126, 9000},
		{"TTL", func(c *api.Config, n int) { c.TTL, c.Renew = int64(n), 1 }, 2, 1099511627776},
		{"Renew", func(c *api.Config, n int) { c.Renew = int64(n) }, 1, 23},
		{"Renew of a TTL of 2", func(c *api.Config, n int) { c.TTL, c.Renew = 2, int64(n) }, 1, 1},
		{"Renew of a long TTL", func(c *api.Config, n int) { c.TTL, c.Renew = 1<<40, int64(n) }, 1, 1<<40 - 1},
		{"Log", func(c *api.Config, n int) { c.Log = n }, 1, 256},
		{"Hosts", func(c *api.Config, n int) { c.Hosts = n }, 1, 64},
		{"Routes", func(c *api.Config, n int) { c.Routes = n }, 1, 256},
		{"Neighs", func(c *api.Config, n int) { c.Neighs = n }, 1, 256},
		{"Fdbs", func(c *api.Config, n int) { c.Fdbs = n }, 1, 256},
		{"Room", func(c *api.Config, n int) { c.Room = n }, 1, 256},
		{"SubnetLen", func(c *api.Config, n int) { c.SubnetLen, c.Max = n, c.Min }, 17, 30},
		{"SubnetLen of the widest network", func(c *api.Config, n int) { c.Network.Len, c.SubnetLen, c.Max = 8, n, c.Min }, 9, 30},
		{"SubnetLen of the narrowest network", func(c *api.Config, n int) { c.Network.Len, c.SubnetLen, c.Max = 28, n, c.Min }, 29, 30},
		{"Len", func(c *api.Config, n int) { c.Network.Len, c.SubnetLen, c.Max = n, 30, c.Min }, 8, 28},
	} {
		for _, n := range []int{math.MinInt, math.MinInt32, -1, row.least - 1, row.least, row.most, row.most + 1, 1 << 32, 1 << 41, math.MaxInt - 1, math.MaxInt} {
			want := api.OK
			if n < row.least || n > row.most {
				want = api.ErrValue
			}
			c := changed(func(c *api.Config) { row.put(c, n) })
			if err := Check(c); err != want {
				t.Errorf("P2.4: %s %d: Check = %d, want %d", row.name, n, err, want)
			}
		}
	}
	for _, ttl := range []int64{math.MinInt64, math.MinInt64 + 1, -1, 0, 1} {
		checkCheck(t, api.ErrValue, changed(func(c *api.Config) { c.TTL, c.Renew = ttl, ttl-1 }))
		checkCheck(t, api.ErrValue, changed(func(c *api.Config) { c.TTL, c.Renew = ttl, math.MaxInt64 }))
	}
	checkCheck(t, api.ErrValue, api.Config{})
}

func TestP2_4Network(t *testing.T) {
	for _, x := range []struct {
		net  api.Prefix
		want api.Errno
	}{
		{subnet(10, 0, 0, 0, 16), api.OK}, {subnet(1, 0, 0, 0, 8), api.OK}, {subnet(126, 255, 255, 240, 28), api.OK}, {subnet(128, 0, 0, 0, 8), api.OK}, {subnet(223, 0, 0, 0, 8), api.OK}, {subnet(223, 255, 255, 240, 28), api.OK},
		{subnet(0, 0, 0, 0, 8), api.ErrValue}, {subnet(0, 255, 0, 0, 16), api.ErrValue}, {subnet(127, 0, 0, 0, 8), api.ErrValue}, {subnet(127, 255, 255, 240, 28), api.ErrValue}, {subnet(224, 0, 0, 0, 8), api.ErrValue}, {subnet(239, 0, 0, 0, 8), api.ErrValue}, {subnet(240, 0, 0, 0, 8), api.ErrValue}, {subnet(255, 255, 255, 240, 28), api.ErrValue},
		{subnet(10, 0, 0, 1, 16), api.ErrValue}, {subnet(10, 0, 128, 0, 16), api.ErrValue}, {subnet(10, 0, 0, 0, 7), api.ErrValue}, {subnet(10, 0, 0, 0, 29), api.ErrValue}, {subnet(10, 0, 0, 0, 64), api.ErrValue}, {api.Prefix{}, api.ErrValue}, {api.Prefix{Addr: quad(10, 0, 0, 0), Len: -16}, api.ErrValue},
	} {
		checkCheck(t, x.want, changed(func(c *api.Config) {
			c.Network, c.SubnetLen, c.Min, c.Max = x.net, 30, x.net.Addr, x.net.Addr
		}))
	}
}

func TestP2_4MinAndMax(t *testing.T) {
	for _, x := range []struct {
		a    api.Addr
		want api.Errno
	}{
		{quad(10, 0, 0, 0), api.OK}, {quad(10, 0, 1, 0), api.OK}, {quad(10, 0, 255, 0), api.OK},
		{quad(10, 0, 0, 1), api.ErrValue}, {quad(10, 0, 1, 128), api.ErrValue}, {quad(10, 0, 255, 255), api.ErrValue}, {quad(9, 255, 255, 0), api.ErrValue}, {quad(10, 1, 0, 0), api.ErrValue}, {0, api.ErrValue}, {quad(255, 255, 255, 0), api.ErrValue},
	} {
		checkCheck(t, x.want, changed(func(c *api.Config) { c.Min, c.Max = x.a, x.a }))
		checkCheck(t, x.want, changed(func(c *api.Config) { c.Min = x.a }))
		checkCheck(t, x.want, changed(func(c *api.Config) { c.Max = x.a }))
	}
	checkCheck(t, api.ErrPool, changed(func(c *api.Config) { c.Min, c.Max = quad(10, 0, 1, 0), quad(10, 0, 0, 0) }))
	checkCheck(t, api.ErrPool, changed(func(c *api.Config) { c.Min, c.Max = quad(10, 0, 255, 0), quad(10, 0, 254, 0) }))
	// A narrow subnet lies at more bases.
	checkCheck(t, api.OK, changed(func(c *api.Config) { c.SubnetLen, c.Min, c.Max = 30, quad(10, 0, 0, 4), quad(10, 0, 255, 252) }))
	checkCheck(t, api.ErrValue, changed(func(c *api.Config) { c.SubnetLen, c.Max = 30, quad(10, 0, 255, 254) }))
}

func TestP2_4Hosts(t *testing.T) {
	for _, x := range []struct {
		first api.Addr
		hosts int
		want  api.Errno
	}{
		{quad(192, 168, 0, 1), 64, api.OK}, {quad(1, 0, 0, 0), 1, api.OK}, {quad(126, 255, 255, 255), 1, api.OK}, {quad(126, 255, 255, 192), 64, api.OK}, {quad(128, 0, 0, 0), 64, api.OK}, {quad(223, 255, 255, 255), 1, api.OK}, {quad(223, 255, 255, 192), 64, api.OK},
		{0, 1, api.ErrValue}, {quad(0, 255, 255, 255), 2, api.ErrValue}, {quad(0, 255, 255, 255), 64, api.ErrValue}, {quad(126, 255, 255, 255), 2, api.ErrValue}, {quad(126, 255, 255, 193), 64, api.ErrValue}, {quad(127, 0, 0, 0), 1, api.ErrValue}, {quad(127, 255, 255, 255), 2, api.ErrValue},
		{quad(223, 255, 255, 255), 2, api.ErrValue}, {quad(223, 255, 255, 193), 64, api.ErrValue}, {quad(224, 0, 0, 0), 1, api.ErrValue}, {quad(239, 255, 255, 255), 2, api.ErrValue}, {quad(240, 0, 0, 0), 1, api.ErrValue}, {quad(255, 255, 255, 255), 1, api.ErrValue}, {quad(255, 255, 255, 255), 2, api.ErrValue}, {quad(255, 255, 255, 255), 64, api.ErrValue},
		{quad(10, 0, 0, 0), 1, api.ErrPool}, {quad(10, 0, 0, 9), 2, api.ErrPool}, {quad(10, 0, 255, 255), 1, api.ErrPool}, {quad(10, 0, 255, 255), 64, api.ErrPool}, {quad(9, 255, 255, 255), 2, api.ErrPool}, {quad(9, 255, 255, 193), 64, api.ErrPool},
		{quad(9, 255, 255, 192), 64, api.OK}, {quad(9, 255, 255, 255), 1, api.OK}, {quad(10, 1, 0, 0), 64, api.OK},
	} {
		checkCheck(t, x.want, changed(func(c *api.Config) { c.First, c.Hosts = x.first, x.hosts }))
	}
	// A network that lies between two hosts.
	checkCheck(t, api.ErrPool, changed(func(c *api.Config) {
		c.Network, c.SubnetLen, c.Min, c.Max = subnet(10, 0, 0, 16, 28), 30, quad(10, 0, 0, 16), quad(10, 0, 0, 28)
		c.First, c.Hosts = quad(10, 0, 0, 1), 64
	}))
}

func TestP2_4Reserved(t *testing.T) {
	for _, x := range []struct {
		list []api.Reserve
		want api.Errno
	}{
		{nil, api.OK}, {[]api.Reserve{}, api.OK},
		{[]api.Reserve{keep(0, subnet(10, 0, 0, 0, 24))}, api.OK}, {[]api.Reserve{keep(3, subnet(10, 0, 255, 0, 24))}, api.OK},
		{[]api.Reserve{keep(0, subnet(10, 0, 9, 0, 24)), keep(2, subnet(10, 0, 0, 0, 24)), keep(3, subnet(10, 0, 8, 0, 24))}, api.OK},
		{[]api.Reserve{keep(-1, subnet(10, 0, 0, 0, 24))}, api.ErrPool}, {[]api.Reserve{keep(4, subnet(10, 0, 0, 0, 24))}, api.ErrPool}, {[]api.Reserve{keep(math.MinInt, subnet(10, 0, 0, 0, 24))}, api.ErrPool}, {[]api.Reserve{keep(math.MaxInt, subnet(10, 0, 0, 0, 24))}, api.ErrPool},
		{[]api.Reserve{keep(1, subnet(10, 0, 0, 0, 24)), keep(1, subnet(10, 0, 1, 0, 24))}, api.ErrPool}, {[]api.Reserve{keep(1, subnet(10, 0, 0, 0, 24)), keep(0, subnet(10, 0, 1, 0, 24))}, api.ErrPool}, {[]api.Reserve{keep(0, subnet(10, 0, 0, 0, 24)), keep(2, subnet(10, 0, 1, 0, 24)), keep(1, subnet(10, 0, 2, 0, 24))}, api.ErrPool},
		{[]api.Reserve{keep(0, subnet(10, 0, 0, 0, 24)), keep(1, subnet(10, 0, 0, 0, 24))}, api.ErrPool}, {[]api.Reserve{keep(0, subnet(10, 0, 0, 0, 24)), keep(1, subnet(10, 0, 1, 0, 24)), keep(2, subnet(10, 0, 0, 0, 24))}, api.ErrPool},
		{[]api.Reserve{keep(0, subnet(10, 0, 0, 0, 23))}, api.ErrPool}, {[]api.Reserve{keep(0, subnet(10, 0, 0, 0, 25))}, api.ErrPool}, {[]api.Reserve{keep(0, subnet(10, 0, 0, 0, 16))}, api.ErrPool}, {[]api.Reserve{keep(0, subnet(10, 0, 0, 0, -1))}, api.ErrPool}, {[]api.Reserve{keep(0, subnet(10, 0, 0, 0, 33))}, api.ErrPool}, {[]api.Reserve{keep(0, api.Prefix{})}, api.ErrPool},
		{[]api.Reserve{keep(0, subnet(10, 0, 0, 1, 24))}, api.ErrPool}, {[]api.Reserve{keep(0, subnet(10, 0, 0, 128, 24))}, api.ErrPool}, {[]api.Reserve{keep(0, subnet(10, 1, 0, 0, 24))}, api.ErrPool}, {[]api.Reserve{keep(0, subnet(9, 255, 255, 0, 24))}, api.ErrPool},
		{[]api.Reserve{keep(0, subnet(10, 0, 0, 0, 24)), keep(1, subnet(10, 1, 0, 0, 24))}, api.ErrPool},
	} {
		// Min and Max bound what is given out, not what is reserved.
		checkCheck(t, x.want, changed(func(c *api.Config) {
			c.Hosts, c.Min, c.Max, c.Reserved = 4, quad(10, 0, 4, 0), quad(10, 0, 5, 0), x.list
		}))
	}
	checkCheck(t, api.ErrPool, changed(func(c *api.Config) {
		c.Reserved = slices.Repeat([]api.Reserve{keep(1, subnet(10, 0, 0, 0, 24))}, 1<<20)
	}))
}

func TestP2_4ValueAheadOfPool(t *testing.T) {
	pool := func(c *api.Config) { c.Min, c.Max = quad(10, 0, 1, 0), quad(10, 0, 0, 0) }
	checkCheck(t, api.ErrPool, changed(pool))
	for _, value := range []func(c *api.Config){
		func(c *api.Config) { c.VNI = -1 }, func(c *api.Config) { c.Port = 0 }, func(c *api.Config) { c.MTU = 125 }, func(c *api.Config) { c.TTL = 1 }, func(c *api.Config) { c.Renew = 0 }, func(c *api.Config) { c.Log = 0 }, func(c *api.Config) { c.Hosts = 0 },
		func(c *api.Config) { c.Routes = 0 }, func(c *api.Config) { c.Neighs = 0 }, func(c *api.Config) { c.Fdbs = 0 }, func(c *api.Config) { c.Room = 0 }, func(c *api.Config) { c.First = 0 }, func(c *api.Config) { c.Max++ }, func(c *api.Config) { c.Min++ }, func(c *api.Config) { c.SubnetLen = 31 }, func(c *api.Config) { c.Network.Len = 7 },
	} {
		checkCheck(t, api.ErrValue, changed(func(c *api.Config) { pool(c); value(c) }))
		checkCheck(t, api.ErrValue, changed(func(c *api.Config) { c.Reserved = []api.Reserve{keep(-1, api.Prefix{})}; value(c) }))
	}
}

func TestP2_3Defaults(t *testing.T) {
	checkLoad(t, "{"+shortest+"}", plain(), api.OK)
	for _, x := range []struct {
		more string
		want func(c *api.Config)
	}{
		{`"min":"10.0.1.0"`, func(c *api.Config) { c.Min = quad(10, 0, 1, 0) }},
		{`"max":"10.0.1.0"`, func(c *api.Config) { c.Max = quad(10, 0, 1, 0) }},
		{`"vni":0`, func(c *api.Config) { c.VNI = 0 }},
		{`"vni":16777215`, func(c *api.Config) { c.VNI = 16777215 }},
		{`"port":8472`, func(c *api.Config) { c.Port = 8472 }},
		{`"mtu":126`, func(c *api.Config) { c.MTU = 126 }},
		{`"ttl":2`, func(c *api.Config) { c.TTL, c.Renew = 2, 1 }},
		{`"ttl":3`, func(c *api.Config) { c.TTL, c.Renew = 3, 1 }},
		{`"ttl":5`, func(c *api.Config) { c.TTL, c.Renew = 5, 1 }},
		{`"ttl":6`, func(c *api.Config) { c.TTL, c.Renew = 6, 2 }},
		{`"ttl":100`, func(c *api.Config) { c.TTL, c.Renew = 100, 33 }},
		{`"ttl":1099511627776`, func(c *api.Config) { c.TTL, c.Renew = 1<<40, 1<<40/3 }},
		{`"renew":23`, func(c *api.Config) { c.Renew = 23 }},
		{`"renew":99,"ttl":100`, func(c *api.Config) { c.TTL, c.Renew = 100, 99 }},
		{`"log":1`, func(c *api.Config) { c.Log = 1 }},
		{`"routes":2`, func(c *api.Config) { c.Routes = 2 }},
		{`"neighs":3`, func(c *api.Config) { c.Neighs = 3 }},
		{`"fdbs":4`, func(c *api.Config) { c.Fdbs = 4 }},
		{`"room":5`, func(c *api.Config) { c.Room = 5 }},
		{`"reserved":[]`, func(c *api.Config) {}},
		{`"reserved":[{"subnet":"10.0.7.0/24","host":0},{"host":1,"subnet":"10.0.6.0/24"}]`, func(c *api.Config) {
			c.Reserved = []api.Reserve{keep(0, subnet(10, 0, 7, 0, 24)), keep(1, subnet(10, 0, 6, 0, 24))}
		}},
	} {
		checkLoad(t, "{"+shortest+","+x.more+"}", changed(x.want), api.OK)
		checkLoad(t, " { "+x.more+" ,\n"+shortest+" } ", changed(x.want), api.OK)
	}
	checkLoad(t, `{"first":"192.0.2.1","hosts":64,"subnetLen":9,"network":"44.0.0.0/8"}`, changed(func(c *api.Config) {
		c.Network, c.SubnetLen, c.Hosts, c.First, c.Min, c.Max = subnet(44, 0, 0, 0, 8), 9, 64, quad(192, 0, 2, 1), quad(44, 0, 0, 0), quad(44, 128, 0, 0)
	}), api.OK)
	checkLoad(t, `{"first":"192.0.2.1","hosts":1,"subnetLen":30,"network":"44.0.0.32/28"}`, changed(func(c *api.Config) {
		c.Network, c.SubnetLen, c.Hosts, c.First, c.Min, c.Max = subnet(44, 0, 0, 32, 28), 30, 1, quad(192, 0, 2, 1), quad(44, 0, 0, 32), quad(44, 0, 0, 44)
	}), api.OK)
	checkLoad(t, `{"\u006eetwork":"10.0.0.0\/16","subnetLen":24,"hosts":2,"first":"192.168.0.\u0031"}`, plain(), api.OK)
}

// kinds has a value of each JSON kind, and the kind's number.
var kinds = []string{"null", "false", "true", "1", `"x"`, "[]", "{}"}

func TestP2_3KindsOfMembers(t *testing.T) {
	wanted := map[string]int{"network": 5, "first": 5, "min": 5, "max": 5, "reserved": 6}
	for _, key := range strings.Fields("network subnetLen hosts first min max vni port mtu ttl renew log routes neighs fdbs room reserved") {
		want := max(wanted[key], 4)
		for i, value := range kinds {
			err := api.ErrKind
			if i+1 == want {
				err = api.ErrMissing
			}
			if i+1 == want && want == 5 {
				err = api.ErrValue
			}
			checkLoad(t, fmt.Sprintf(`{"%s":%s}`, key, value), api.Config{}, err)
		}
	}
	for i, value := range kinds {
		if i != 3 {
			checkLoad(t, `{"reserved":[{"host":`+value+`}]}`, api.Config{}, api.ErrKind)
		}
		if i != 4 {
			checkLoad(t, `{"reserved":[{"subnet":`+value+`}]}`, api.Config{}, api.ErrKind)
		}
		if i != 6 {
			checkLoad(t, `{"reserved":[`+value+`]}`, api.Config{}, api.ErrKind)
			checkLoad(t, value, api.Config{}, api.ErrKind)
		}
	}
}

func TestP2_3Values(t *testing.T) {
	for _, n := range []string{"-0", "-1", "0.0", "24.0", "1e1", "1E0", "24e0", "1000000000000000", "9999999999999999", "18446744073709551617", "1" + repeat("0", 16000)} {
		for _, key := range strings.Fields("subnetLen hosts vni port mtu ttl renew log routes neighs fdbs room") {
			checkLoad(t, `{"`+key+`":`+n+`}`, api.Config{}, api.ErrValue)
		}
		checkLoad(t, `{"reserved":[{"host":`+n+`}]}`, api.Config{}, api.ErrValue)
	}
	// 15 digits are a number, which Check may refuse later.
	for _, key := range strings.Fields("subnetLen hosts vni port mtu ttl renew log routes neighs fdbs room") {
		checkLoad(t, `{"`+key+`":999999999999999}`, api.Config{}, api.ErrMissing)
	}
	for _, s := range []string{"", "10.0.0", "10.0.0.0/16", "10.0.0.256", "x", " 10.0.0.0"} {
		for _, key := range strings.Fields("first min max") {
			checkLoad(t, `{"`+key+`":"`+s+`"}`, api.Config{}, api.ErrValue)
		}
	}
	for _, s := range []string{"", "10.0.0.0", "10.0.0.1/16", "10.0.0.0/33", "10.0.0.0/016", "x"} {
		checkLoad(t, `{"network":"`+s+`"}`, api.Config{}, api.ErrValue)
		checkLoad(t, `{"reserved":[{"subnet":"`+s+`"}]}`, api.Config{}, api.ErrValue)
	}
}

func TestP2_3Keys(t *testing.T) {
	for _, key := range []string{"", "Network", "NETWORK", "network ", "subnetlen", "subnet", "host", "x", "reserve", "network\\u0000", "ttl\\n"} {
		for _, value := range kinds {
			checkLoad(t, "{"+shortest+`,"`+key+`":`+value+"}", api.Config{}, api.ErrKey)
		}
	}
	for _, key := range []string{"", "Host", "subnets", "network", "x"} {
		checkLoad(t, `{"reserved":[{"`+key+`":1}]}`, api.Config{}, api.ErrKey)
	}
	checkLoad(t, "{"+shortest+`,"vni":1,"vni":1}`, api.Config{}, api.ErrKey)
	checkLoad(t, `{"reserved":[{"host":1,"host":1}]}`, api.Config{}, api.ErrKey)
}

func TestP2_3Missing(t *testing.T) {
	members := strings.Split(shortest, ",")
	for i := range members {
		rest := slices.Delete(slices.Clone(members), i, i+1)
		checkLoad(t, "{"+strings.Join(rest, ",")+"}", api.Config{}, api.ErrMissing)
		// Ahead of what Check would refuse.
		checkLoad(t, "{"+strings.Join(rest, ",")+`,"vni":99999999,"ttl":0}`, api.Config{}, api.ErrMissing)
	}
	checkLoad(t, "{}", api.Config{}, api.ErrMissing)
	checkLoad(t, `{"network":"10.0.0.0/16"}`, api.Config{}, api.ErrMissing)
	for _, element := range []string{"{}", `{"host":1}`, `{"subnet":"10.0.0.0/24"}`} {
		checkLoad(t, "{"+shortest+`,"reserved":[`+element+"]}", api.Config{}, api.ErrMissing)
	}
}

func TestP2_3Order(t *testing.T) {
	for text, want := range map[string]api.Errno{
		`{"x":1,`: api.ErrSyntax, "[\"\xff\"]": api.ErrText, repeat("[", 17): api.ErrDeep, zeros(1024): api.ErrNodes, `{"a":1,"a":2}`: api.ErrKey, repeat(" ", 16385): api.ErrLong, "": api.ErrSyntax,
		`{"x":1,"vni":""}`: api.ErrKey, `{"vni":"","x":1}`: api.ErrKind, `{"vni":1.5,"x":1}`: api.ErrValue, `{"vni":1.5,"port":""}`: api.ErrValue, `{"port":"","vni":1.5}`: api.ErrKind, `{"network":"10.0.0.0/16","subnetLen":24.0}`: api.ErrValue,
		`{"reserved":[{}],"x":1}`: api.ErrMissing, `{"x":1,"reserved":[{}]}`: api.ErrKey, `{"reserved":[{},1]}`: api.ErrMissing, `{"reserved":[1,{}]}`: api.ErrKind, `{"reserved":[{"host":1},{"x":1}]}`: api.ErrMissing, `{"reserved":[{"host":1,"x":1}]}`: api.ErrKey,
		`{"reserved":[{"host":1.5,"x":1}]}`: api.ErrValue, `{"reserved":[{"x":1,"host":1.5}]}`: api.ErrKey, `{"reserved":[{"subnet":1,"host":1.5}]}`: api.ErrKind, `{"reserved":[{"host":1.5}],"vni":""}`: api.ErrValue, `{"reserved":{},"vni":1.5}`: api.ErrKind,
		`{"reserved":[{"host":0,"subnet":"10.0.0.0/24"},{"host":[{"host":1}],"subnet":1}]}`: api.ErrKind, `{"reserved":[{"host":0,"subnet":"10.0.0.0/24"},[]]}`: api.ErrKind, `{"reserved":[{"host":0,"subnet":"10.0.0.0/24"}],"x":1}`: api.ErrKey,
		"{" + shortest + `,"min":"10.0.3.0","max":"10.0.2.0","mtu":1}`: api.ErrValue, "{" + shortest + `,"min":"10.0.3.0","max":"10.0.2.0"}`: api.ErrPool,
		`{"network":"10.0.0.0/16","subnetLen":24,"hosts":2,"first":"10.0.0.9"}`: api.ErrPool,
	} {
		checkLoad(t, text, api.Config{}, want)
	}
}

func TestP2_3LengthsOutOfRange(t *testing.T) {
	for _, network := range []string{"0.0.0.0/0", "10.0.0.0/7", "10.0.0.0/29", "10.0.0.0/32", "255.255.255.255/32", "127.0.0.0/8", "10.0.0.0/16"} {
		for _, n := range []string{"0", "8", "15", "16", "31", "32", "33", "63", "64", "65", "4294967320", "999999999999999"} {
			for _, more := range []string{"", `,"min":"10.0.0.0"`, `,"max":"10.0.0.0"`} {
				checkLoad(t, `{"network":"`+network+`","subnetLen":`+n+`,"hosts":2,"first":"192.168.0.1"`+more+`}`, api.Config{}, api.ErrValue)
			}
		}
	}
}

const saved = `{"network":"10.0.0.0/16","subnetLen":24,"min":"10.0.0.0","max":"10.0.255.0","vni":1,"port":4789,"mtu":1500,"ttl":24,"renew":8,"log":64,"hosts":2,"first":"192.168.0.1","routes":64,"neighs":64,"fdbs":64,"room":64,"reserved":[]}`

func TestP2_5Save(t *testing.T) {
	if text, err := Save(plain()); text != saved || err != api.OK {
		t.Errorf("P2.5: Save = %s, %d", text, err)
	}
	c := changed(func(c *api.Config) {
		c.Network, c.SubnetLen, c.Min, c.Max = subnet(172, 16, 0, 0, 12), 20, quad(172, 16, 16, 0), quad(172, 31, 224, 0)
		c.VNI, c.Port, c.MTU, c.TTL, c.Renew, c.Log, c.Hosts, c.First = 0, 65535, 9000, 1<<40, 1<<40-1, 256, 64, quad(223, 255, 255, 192)
		c.Routes, c.Neighs, c.Fdbs, c.Room = 1, 2, 3, 4
		c.Reserved = []api.Reserve{keep(0, subnet(172, 17, 0, 0, 20)), keep(63, subnet(172, 16, 0, 0, 20))}
	})
	want := `{"network":"172.16.0.0/12","subnetLen":20,"min":"172.16.16.0","max":"172.31.224.0","vni":0,"port":65535,"mtu":9000,"ttl":1099511627776,"renew":1099511627775,"log":256,"hosts":64,"first":"223.255.255.192","routes":1,"neighs":2,"fdbs":3,"room":4,"reserved":[{"host":0,"subnet":"172.17.0.0/20"},{"host":63,"subnet":"172.16.0.0/20"}]}`
	if text, err := Save(c); text != want || err != api.OK {
		t.Errorf("P2.5: Save = %s, %d", text, err)
	}
	checkLoad(t, want, c, api.OK)
	if text, err := Save(changed(func(c *api.Config) { c.Hosts = 0 })); text != "" || err != api.ErrValue {
		t.Errorf("P2.5: Save = %q, %d", text, err)
	}
	if text, err := Save(changed(func(c *api.Config) { c.First = quad(10, 0, 0, 0) })); text != "" || err != api.ErrPool {
		t.Errorf("P2.5: Save = %q, %d", text, err)
	}
}

// anyConfig is a configuration that may be, made up by the dice.
func anyConfig(roll *rand.Rand) api.Config {
	between := func(least, most int) int { return least + roll.Intn(most-least+1) }
	n := between(8, 28)
	c := api.Config{
		Network: api.Prefix{Addr: quad(between(1, 126), roll.Intn(256), roll.Intn(256), roll.Intn(256)) &^ (1<<(32-n) - 1), Len: n}, SubnetLen: between(n+1, 30),
		VNI: between(0, 1<<24-1), Port: between(1, 65535), MTU: between(126, 9000), TTL: int64(between(2, 1<<40)), Log: between(1, 256), Hosts: between(1, 64), First: quad(between(128, 223), roll.Intn(256), roll.Intn(256), roll.Intn(192)),
		Routes: between(1, 256), Neighs: between(1, 256), Fdbs: between(1, 256), Room: between(1, 256),
	}
	c.Renew = 1 + roll.Int63n(c.TTL-1)
	base := func(i int) api.Addr { return c.Network.Addr + api.Addr(i)<<(32-c.SubnetLen) }
	subnets := 1 << (c.SubnetLen - n)
	first := roll.Intn(subnets)
	c.Min, c.Max = base(first), base(between(first, subnets-1))
	for h := range c.Hosts {
		if h < subnets && roll.Intn(2) == 0 {
			c.Reserved = append(c.Reserved, api.Reserve{Host: h, Subnet: api.Prefix{Addr: base(subnets - 1 - h), Len: c.SubnetLen}})
		}
	}
	return c
}

func TestP2_5LoadOfSave(t *testing.T) {
	roll := dice()
	for range 3000 {
		c := anyConfig(roll)
		text, err := Save(c)
		if err != api.OK {
			t.Fatalf("P2.5: Save(%+v): %d", c, err)
		}
		checkLoad(t, text, c, api.OK)
		nodes, _, _ := Parse(text)
		if again, err := Print(nodes); again != text || err != api.OK {
			t.Errorf("P2.5: not canonical: %s", text)
		}
	}
	// As many reserved subnets as there may be.
	full := changed(func(c *api.Config) { c.Hosts = 64 })
	for h := range 64 {
		full.Reserved = append(full.Reserved, api.Reserve{Host: h, Subnet: subnet(10, 0, 255-h, 0, 24)})
	}
	text, err := Save(full)
	if err != api.OK {
		t.Errorf("P2.5: 64 reserved subnets: %d", err)
	}
	checkLoad(t, text, full, api.OK)
}

func TestP2_3Neighbours(t *testing.T) {
	// Whatever a byte makes of a text: an error with nothing beside it, or a configuration that may be, and that is saved and loaded again.
	seed := "{" + shortest + `,"ttl":9,"reserved":[{"host":1,"subnet":"10.0.3.0/24"}]}`
	for _, text := range neighbours(seed) {
		c, err := Load(text)
		if err != api.OK {
			if !same(c, api.Config{}) {
				t.Errorf("P0.2: Load(%q) = %+v, %d", text, c, err)
			}
			continue
		}
		if err := Check(c); err != api.OK {
			t.Errorf("P2.3: Load(%q) = %+v, which Check refuses: %d", text, c, err)
		}
		again, _ := Save(c)
		checkLoad(t, again, c, api.OK)
	}
}

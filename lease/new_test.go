package lease

import (
	"math"
	"slices"
	"testing"

	"weft/api"
	"weft/conf"
)

func TestP11_1Empty(t *testing.T) {
	for _, c := range []api.Config{config(), wide(0, 255, 64, 256), wide(7, 7, 1, 1)} {
		b := made(t, c)
		if snap := b.s.Snapshot(); snap.Rev != 0 || snap.Now != 0 || len(snap.Leases) != 0 {
			t.Errorf("Snapshot() = %+v", snap)
		}
		if img := b.s.Image(); img.Rev != 0 || img.Now != 0 || len(img.Leases) != 0 || len(img.Events) != 0 {
			t.Errorf("Image() = %+v", img)
		}
		if l, e := b.s.Watch(0, 9); len(l) != 0 || e != api.OK {
			t.Errorf("Watch(0, 9) = %v, %d", l, e)
		}
		if l, e := b.s.Watch(1, 9); l != nil || e != api.ErrFuture {
			t.Errorf("Watch(1, 9) = %v, %d", l, e)
		}
		if l, e := b.s.Holder(c.Min); l != (api.Lease{}) || e != api.ErrNone {
			t.Errorf("Holder = %v, %d", l, e)
		}
	}
}

// spoilt is configurations that may not be, by the error that conf.Check has for them.
func spoilt() map[api.Errno][]api.Config {
	list := map[api.Errno][]api.Config{}
	lay := func(e api.Errno, spoil func(c *api.Config)) {
		c := config()
		spoil(&c)
		list[e] = append(list[e], c)
	}
	for _, n := range []int{math.MinInt, -1, 0, math.MaxInt} {
		for _, field := range []func(c *api.Config) *int{
			func(c *api.Config) *int { return &c.Network.Len }, func(c *api.Config) *int { return &c.SubnetLen },
			func(c *api.Config) *int { return &c.Port }, func(c *api.Config) *int { return &c.MTU },
			func(c *api.Config) *int { return &c.Log }, func(c *api.Config) *int { return &c.Hosts },
			func(c *api.Config) *int { return &c.Routes }, func(c *api.Config) *int { return &c.Neighs },
			func(c *api.Config) *int { return &c.Fdbs }, func(c *api.Config) *int { return &c.Room },
		} {
			lay(api.ErrValue, func(c *api.Config) { *field(c) = n })
		}
		lay(api.ErrValue, func(c *api.Config) { c.TTL = int64(n) })
		lay(api.ErrValue, func(c *api.Config) { c.Renew = int64(n) })
	}
	lay(api.ErrValue, func(c *api.Config) { *c = api.Config{} })
	lay(api.ErrValue, func(c *api.Config) { c.Network.Addr++ })
	lay(api.ErrValue, func(c *api.Config) { c.Network.Addr = 127 << 24 })
	lay(api.ErrValue, func(c *api.Config) { c.SubnetLen = 31 })
	lay(api.ErrValue, func(c *api.Config) { c.SubnetLen = 16 })
	lay(api.ErrValue, func(c *api.Config) { c.Min++ })
	lay(api.ErrValue, func(c *api.Config) { c.Max = 11 << 24 })
	lay(api.ErrValue, func(c *api.Config) { c.VNI = -1 })
	lay(api.ErrValue, func(c *api.Config) { c.TTL = 1 })
	lay(api.ErrValue, func(c *api.Config) { c.TTL = 1<<40 + 1 })
	lay(api.ErrValue, func(c *api.Config) { c.Log = 257 })
	lay(api.ErrValue, func(c *api.Config) { c.Hosts = 65 })
	lay(api.ErrValue, func(c *api.Config) { c.First = math.MaxUint32 })
	lay(api.ErrValue, func(c *api.Config) { c.TTL, c.Min = 1, c.Max+256 })
	lay(api.ErrPool, func(c *api.Config) { c.Min, c.Max = c.Max, c.Min })
	lay(api.ErrPool, func(c *api.Config) { c.First = c.Network.Addr })
	lay(api.ErrPool, func(c *api.Config) { c.Reserved[0].Host = -1 })
	lay(api.ErrPool, func(c *api.Config) { c.Reserved[0].Host = 4 })
	lay(api.ErrPool, func(c *api.Config) { c.Reserved[0].Subnet.Len = 25 })
	lay(api.ErrPool, func(c *api.Config) { c.Reserved[0].Subnet.Addr++ })
	lay(api.ErrPool, func(c *api.Config) { c.Reserved[0].Subnet.Addr = 11 << 24 })
	lay(api.ErrPool, func(c *api.Config) { c.Reserved = append(c.Reserved, api.Reserve{Host: 2, Subnet: nth(5)}) })
	lay(api.ErrPool, func(c *api.Config) { c.Reserved = append([]api.Reserve{{Host: 2, Subnet: nth(9)}}, c.Reserved...) })
	lay(api.ErrPool, func(c *api.Config) { c.Reserved = slices.Repeat(c.Reserved, 3000) })
	return list
}

func TestP11_1ErrorsOfCheck(t *testing.T) {
	all := spoilt()
	if len(all[api.ErrValue]) == 0 || len(all[api.ErrPool]) == 0 {
		t.Fatal("no configurations")
	}
	for want, list := range all {
		for _, c := range list {
			if e := conf.Check(c); e != want {
				t.Errorf("Check(%+v) = %d, want %d", c, e, want)
			}
			if s, e := New(c); s != nil || e != want {
				t.Errorf("New(%+v) = %v, %d, want %d", c, s, e, want)
			}
		}
	}
}

// The greatest and the smallest that may be.
func TestP11_1Edges(t *testing.T) {
	c := config()
	c.Network, c.SubnetLen, c.Min, c.Max, c.Reserved = api.Prefix{Addr: 10 << 24, Len: 8}, 30, 10<<24, 11<<24-4, nil
	c.TTL, c.Log, c.Hosts = 1<<40, 256, 64
	b := made(t, c)
	for h := range 64 {
		b.is(acquire(h, x, api.Prefix{}), api.OK, held(h, x, api.Prefix{Addr: api.Addr(10<<24 + 4*h), Len: 30}, 1<<40, int64(h)+1), int64(h)+1, 0)
	}
	c = config()
	c.Network, c.SubnetLen, c.Min, c.Max, c.Reserved = api.Prefix{Addr: 10 << 24, Len: 28}, 29, 10<<24+8, 10<<24+8, nil
	c.TTL, c.Log, c.Hosts = 2, 1, 1
	b = made(t, c)
	b.is(acquire(0, x, api.Prefix{}), api.OK, held(0, x, api.Prefix{Addr: 10<<24 + 8, Len: 29}, 2, 1), 1, 0)
}

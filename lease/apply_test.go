package lease

import (
	"math"
	"slices"
	"testing"

	"weft/api"
)

var (
	none   = api.Lease{}
	noWish = api.Prefix{}
)

// The chapter's examples, step by step.
func TestP11_2Examples(t *testing.T) {
	b := made(t, config())
	b.is(acquire(0, x, noWish), api.OK, held(0, x, nth(1), 5, 1), 1, 0)
	b.is(acquire(1, x, nth(2)), api.OK, held(1, x, nth(2), 5, 2), 2, 0)
	b.is(acquire(2, x, nth(9)), api.ErrFull, none, 2, 0)
	b.is(acquire(3, x, nth(1)), api.OK, held(3, x, nth(9), 5, 3), 3, 0)
	b.is(tick(2), api.OK, none, 3, 2)
	b.is(renew(1, nth(2)), api.OK, held(1, x, nth(2), 7, 2), 3, 2)
	b.is(renew(1, nth(1)), api.ErrLease, none, 3, 2)
	b.is(acquire(0, y, noWish), api.OK, held(0, y, nth(1), 7, 4), 4, 2)
	b.is(acquire(0, y, noWish), api.OK, held(0, y, nth(1), 7, 4), 4, 2)
	two, three, four := added(held(1, x, nth(2), 5, 2)), added(held(3, x, nth(9), 5, 3)), added(held(0, y, nth(1), 7, 4))
	b.tells(0, 9, api.ErrCompacted)
	b.tells(1, 2, api.OK, two, three)
	b.tells(1, 9, api.OK, two, three, four)
	b.tells(4, 1, api.OK)
	b.tells(5, 1, api.ErrFuture)
	b.tells(5, 0, api.ErrArg)
	b.is(tick(3), api.OK, none, 5, 5)
	b.tells(4, 9, api.OK, removed(5, held(3, x, nth(9), 5, 3)))
	b.is(tick(2), api.OK, none, 7, 7)
	b.tells(5, 9, api.OK, removed(6, held(0, y, nth(1), 7, 4)), removed(7, held(1, x, nth(2), 7, 2)))
	b.is(release(0), api.ErrLease, none, 7, 7)
	b.is(api.Cmd{Kind: 9}, api.ErrCmd, none, 7, 7)
	b.is(acquire(4, x, noWish), api.ErrArg, none, 7, 7)
	b.is(tick(-1), api.ErrArg, none, 7, 7)
}

// tells holds what Watch tells against the events that are wanted.
func (b both) tells(from int64, limit int, e api.Errno, want ...api.Event) {
	b.t.Helper()
	if l, f := b.watch(from, limit); f != e || !slices.Equal(l, want) {
		b.t.Fatalf("Watch(%d, %d) = %+v, %d, want %+v, %d", from, limit, l, f, want, e)
	}
}

// has holds the live leases against those that are wanted.
func (b both) has(want ...api.Lease) {
	b.t.Helper()
	if l := b.s.Snapshot().Leases; !slices.Equal(l, want) {
		b.t.Fatalf("%+v live, want %+v", l, want)
	}
}

// No command, whatever else it says.
func TestP11_2NoKind(t *testing.T) {
	b := made(t, config())
	b.ok(acquire(0, x, noWish), tick(1))
	for _, kind := range []int{math.MinInt, -4, -3, -2, -1, 0, 5, 6, 9, 256 + 1, 256 + 4, 1<<32 + 1, 1<<32 + 4, math.MaxInt} {
		for _, cmd := range []api.Cmd{{}, {Host: -1}, {Host: 4}, {N: -1}, {Host: -1, N: -1}, acquire(0, y, nth(2)), renew(0, nth(1)), release(0), tick(9)} {
			cmd.Kind = kind
			b.refused(api.ErrCmd, cmd)
		}
	}
}

func TestP11_2HostsOfACommand(t *testing.T) {
	for _, hosts := range []int{1, 4, 64} {
		c := wide(0, 255, hosts, 256)
		b := made(t, c)
		for _, h := range []int{math.MinInt, -64, -1, hosts, hosts + 1, 64, 256, 1 << 32, math.MaxInt} {
			b.refused(api.ErrArg, acquire(h, x, nth(1)))
			b.refused(api.ErrArg, renew(h, nth(1)))
			b.refused(api.ErrArg, release(h))
		}
		for _, h := range []int{0, hosts - 1} {
			b.refused(api.ErrLease, renew(h, nth(7)))
			b.refused(api.ErrLease, release(h))
			b.ok(acquire(h, x, nth(7)))
			b.ok(renew(h, nth(7)), release(h))
		}
		for _, h := range []int{-1, hosts} {
			b.refused(api.ErrArg, acquire(h, x, nth(1)))
			b.refused(api.ErrArg, renew(h, nth(7)))
			b.refused(api.ErrArg, release(h))
		}
	}
}

// Of two errors the one that is named first is told.
func TestP11_2FirstError(t *testing.T) {
	c := config()
	c.Log = 2
	full := held(0, x, nth(1), 9, last-1)
	ended := restored(t, c, api.Image{Rev: last, Now: 4, Leases: []api.Lease{full, held(1, x, nth(2), 9, last)}, Events: []api.Event{added(full), added(held(1, x, nth(2), 9, last))}})
	fresh := made(t, c)
	fresh.ok(acquire(0, x, noWish), acquire(1, x, noWish))
	for _, b := range []both{fresh, ended} {
		b.refused(api.ErrCmd, api.Cmd{Kind: 5, Host: -1, N: -1})    // and ErrArg
		b.refused(api.ErrCmd, api.Cmd{Kind: 0, Host: 2})            // and ErrFull, ErrLease
		b.refused(api.ErrArg, acquire(-1, x, noWish))               // and ErrFull
		b.refused(api.ErrArg, acquire(4, x, noWish))                // and ErrFull
		b.refused(api.ErrArg, renew(-1, nth(1)))                    // and ErrLease
		b.refused(api.ErrArg, release(4))                           // and ErrLease
		b.refused(api.ErrFull, acquire(2, x, nth(1)))               // no subnet is free; no revision either
		b.refused(api.ErrLease, renew(2, nth(1)))                   // no lease; the subnet is another's
		b.refused(api.ErrLease, release(2))                         // and ErrFull
		b.refused(api.ErrArg, api.Cmd{Kind: api.Tick, N: -1})       // and ErrFull
		b.refused(api.ErrArg, api.Cmd{Kind: api.Tick, N: -1 << 63}) // the smallest
	}
}

// What a kind does not name is not looked at.
func TestP11_2OtherFields(t *testing.T) {
	b := made(t, config())
	cmd := acquire(0, x, nth(2))
	cmd.N = -7
	b.is(cmd, api.OK, held(0, x, nth(2), 5, 1), 1, 0)
	b.ok(tick(1))
	b.is(api.Cmd{Kind: api.Renew, Host: 0, Subnet: nth(2), Pub: y.pub, MAC: y.mac, N: math.MinInt64}, api.OK, held(0, x, nth(2), 6, 1), 1, 1)
	b.is(api.Cmd{Kind: api.Tick, Host: -1, Subnet: api.Prefix{Len: -9}, Pub: y.pub, MAC: y.mac, N: 1}, api.OK, none, 1, 2)
	b.is(api.Cmd{Kind: api.Tick, Host: math.MaxInt, N: 1}, api.OK, none, 1, 3)
	b.is(api.Cmd{Kind: api.Release, Host: 0, Subnet: nth(1), Pub: y.pub, MAC: y.mac, N: -1}, api.OK, held(0, x, nth(2), 6, 1), 2, 3)
}

// A live lease is acquired again.
func TestP11_2AcquireAgain(t *testing.T) {
	b := made(t, config())
	b.ok(acquire(0, x, nth(2)), tick(3))
	b.is(acquire(0, x, noWish), api.OK, held(0, x, nth(2), 8, 1), 1, 3) // the same: no event
	b.tells(1, 9, api.OK)
	b.is(acquire(0, x, nth(1)), api.OK, held(0, x, nth(2), 8, 1), 1, 3) // the wish is not looked at, though it is free
	b.ok(tick(1))
	pub, mac := who{pub: y.pub, mac: x.mac}, who{pub: y.pub, mac: y.mac}
	b.is(acquire(0, pub, nth(1)), api.OK, held(0, pub, nth(2), 9, 2), 2, 4) // another Pub alone
	b.tells(1, 9, api.OK, added(held(0, pub, nth(2), 9, 2)))
	b.ok(tick(2))
	b.is(acquire(0, mac, noWish), api.OK, held(0, mac, nth(2), 11, 3), 3, 6) // another MAC alone
	b.tells(2, 9, api.OK, added(held(0, mac, nth(2), 11, 3)))
	b.is(acquire(0, x, noWish), api.OK, held(0, x, nth(2), 11, 4), 4, 6) // both
	b.is(acquire(0, who{}, noWish), api.OK, held(0, who{}, nth(2), 11, 5), 5, 6)
	b.is(acquire(0, who{}, noWish), api.OK, held(0, who{}, nth(2), 11, 5), 5, 6)
	b.has(held(0, who{}, nth(2), 11, 5))
	b.is(acquire(1, x, nth(2)), api.OK, held(1, x, nth(1), 11, 6), 6, 6) // the subnet is still taken, once
	b.is(acquire(2, x, noWish), api.ErrFull, none, 6, 6)
}

// Each of a MAC's six bytes and each bit of Pub makes it another.
func TestP11_2AnotherBit(t *testing.T) {
	b := made(t, wide(1, 2, 1, 3))
	b.ok(acquire(0, x, noWish))
	for i := range 32 {
		w := x
		w.pub ^= 1 << i
		b.is(acquire(0, w, noWish), api.OK, held(0, w, nth(1), 5, int64(2*i+2)), int64(2*i+2), 0)
		b.ok(acquire(0, x, noWish))
	}
	for i := range 6 {
		w := x
		w.mac[i] ^= 1
		b.is(acquire(0, w, noWish), api.OK, held(0, w, nth(1), 5, int64(2*i+66)), int64(2*i+66), 0)
		b.ok(acquire(0, x, noWish))
	}
}

// A wish that is no subnet is none: the lowest free one is given.
func TestP11_2WishNoSubnet(t *testing.T) {
	for _, wish := range append(strange(), nth(0), nth(3), nth(9), nth(255)) {
		b := made(t, config())
		b.is(acquire(0, x, wish), api.OK, held(0, x, nth(1), 5, 1), 1, 0)
		b.is(acquire(1, x, wish), api.OK, held(1, x, nth(2), 5, 2), 2, 0)
		b.is(acquire(2, x, wish), api.ErrFull, none, 2, 0)
		b.is(acquire(3, x, wish), api.OK, held(3, x, nth(9), 5, 3), 3, 0)
	}
}

// All wishes over all that is taken: a row of which some are reserved, within it and outside.
func TestP11_2Wishes(t *testing.T) {
	c := wide(2, 6, 7, 9)
	c.Reserved = []api.Reserve{{Host: 4, Subnet: nth(4)}, {Host: 5, Subnet: nth(0)}, {Host: 6, Subnet: nth(9)}}
	for taken := range 1 << 9 {
		for wish := range 11 {
			b := made(t, c)
			host := 1
			for n := range 9 {
				// Hosts 1 to 3 take one of the row each, those with a reserved one theirs.
				if taken>>n&1 == 1 && n >= 2 && n <= 6 && n != 4 && host < 4 {
					b.do(acquire(host, x, nth(n)))
					host++
				}
			}
			for h := 4; h < 7; h++ {
				if taken>>h&1 == 1 {
					b.do(acquire(h, x, nth(wish)))
				}
			}
			b.do(acquire(0, y, nth(wish)))
			if wish == taken%11 {
				b.check()
			}
		}
	}
}

func TestP11_2ReservedInsideTheRow(t *testing.T) {
	c := wide(1, 3, 4, 9)
	c.Reserved = []api.Reserve{{Host: 1, Subnet: nth(1)}, {Host: 2, Subnet: nth(3)}}
	b := made(t, c)
	b.is(acquire(0, x, nth(1)), api.OK, held(0, x, nth(2), 5, 1), 1, 0) // reserved for another
	b.is(acquire(3, x, nth(3)), api.ErrFull, none, 1, 0)                // none but reserved ones are left
	b.is(acquire(2, x, nth(1)), api.OK, held(2, x, nth(3), 5, 2), 2, 0) // its own, whatever it wishes
	b.is(acquire(1, x, nth(1)), api.OK, held(1, x, nth(1), 5, 3), 3, 0) // its own, and its wish
	b.is(release(2), api.OK, held(2, x, nth(3), 5, 2), 4, 0)
	b.is(acquire(3, x, nth(3)), api.ErrFull, none, 4, 0) // still its host's
	b.is(release(0), api.OK, held(0, x, nth(2), 5, 1), 5, 0)
	b.is(acquire(2, x, nth(2)), api.OK, held(2, x, nth(3), 5, 6), 6, 0)
	b.is(acquire(3, x, noWish), api.OK, held(3, x, nth(2), 5, 7), 7, 0)
}

func TestP11_2ReservedOutsideTheRow(t *testing.T) {
	c := wide(5, 5, 4, 9)
	c.Reserved = []api.Reserve{{Host: 0, Subnet: nth(0)}, {Host: 1, Subnet: nth(4)}, {Host: 3, Subnet: nth(255)}}
	b := made(t, c)
	b.is(acquire(0, x, nth(5)), api.OK, held(0, x, nth(0), 5, 1), 1, 0)
	b.is(acquire(1, x, noWish), api.OK, held(1, x, nth(4), 5, 2), 2, 0)
	b.is(acquire(2, x, nth(255)), api.OK, held(2, x, nth(5), 5, 3), 3, 0)
	b.is(acquire(3, x, nth(5)), api.OK, held(3, x, nth(255), 5, 4), 4, 0)
	b.ok(release(2), release(1))
	b.is(acquire(1, x, nth(5)), api.OK, held(1, x, nth(4), 5, 7), 7, 0)
}

// All of a row is reserved: the others have nothing to get.
func TestP11_2AllReserved(t *testing.T) {
	c := wide(1, 2, 4, 9)
	c.Reserved = []api.Reserve{{Host: 2, Subnet: nth(2)}, {Host: 3, Subnet: nth(1)}}
	b := made(t, c)
	b.is(acquire(0, x, nth(1)), api.ErrFull, none, 0, 0)
	b.is(acquire(3, x, nth(2)), api.OK, held(3, x, nth(1), 5, 1), 1, 0)
	b.is(acquire(0, x, nth(2)), api.ErrFull, none, 1, 0)
	b.is(release(3), api.OK, held(3, x, nth(1), 5, 1), 2, 0)
	b.is(acquire(1, x, nth(1)), api.ErrFull, none, 2, 0)
}

// Nothing is left: what is given behind a Release is the lowest then, or the wish.
func TestP11_2Full(t *testing.T) {
	b := made(t, wide(1, 4, 6, 9))
	for h := range 4 {
		b.ok(acquire(h, x, noWish))
	}
	for range 3 {
		b.refused(api.ErrFull, acquire(4, x, noWish))
		b.refused(api.ErrFull, acquire(5, x, nth(2)))
	}
	b.ok(acquire(3, x, noWish), acquire(2, y, noWish)) // who has one is served
	b.ok(release(2))
	b.is(acquire(4, x, nth(1)), api.OK, held(4, x, nth(3), 5, 7), 7, 0)
	b.refused(api.ErrFull, acquire(2, x, nth(3)))
	b.ok(release(3), release(0), release(1))
	b.is(acquire(5, x, nth(2)), api.OK, held(5, x, nth(2), 5, 11), 11, 0)
	b.is(acquire(2, x, noWish), api.OK, held(2, x, nth(1), 5, 12), 12, 0)
	b.is(acquire(0, x, noWish), api.OK, held(0, x, nth(4), 5, 13), 13, 0)
	b.refused(api.ErrFull, acquire(3, x, nth(4)))
}

// The lowest free one, whatever was taken and given back, and whether it ran out or was released.
func TestP11_2LowestFree(t *testing.T) {
	b := made(t, wide(3, 9, 9, 9))
	b.is(acquire(0, x, nth(5)), api.OK, held(0, x, nth(5), 5, 1), 1, 0)
	b.is(acquire(1, x, noWish), api.OK, held(1, x, nth(3), 5, 2), 2, 0)
	b.is(acquire(2, x, noWish), api.OK, held(2, x, nth(4), 5, 3), 3, 0)
	b.is(acquire(3, x, noWish), api.OK, held(3, x, nth(6), 5, 4), 4, 0)
	b.ok(tick(1), renew(0, nth(5)), renew(3, nth(6)), tick(4)) // 3 and 4 run out
	b.is(acquire(4, x, noWish), api.OK, held(4, x, nth(3), 10, 7), 7, 5)
	b.is(acquire(5, x, noWish), api.OK, held(5, x, nth(4), 10, 8), 8, 5)
	b.is(acquire(6, x, noWish), api.OK, held(6, x, nth(7), 10, 9), 9, 5)
	b.is(acquire(7, x, nth(9)), api.OK, held(7, x, nth(9), 10, 10), 10, 5)
	b.is(acquire(8, x, nth(9)), api.OK, held(8, x, nth(8), 10, 11), 11, 5)
}

func TestP11_2Renew(t *testing.T) {
	b := made(t, config())
	b.refused(api.ErrLease, renew(0, nth(1)))
	b.refused(api.ErrLease, renew(0, noWish))
	b.ok(acquire(0, x, nth(1)), acquire(1, x, nth(2)), acquire(3, y, noWish), tick(2))
	for _, p := range append(strange(), nth(2), nth(3), nth(9), api.Prefix{Addr: nth(1).Addr, Len: 25}, api.Prefix{Addr: nth(1).Addr, Len: 23}) {
		b.refused(api.ErrLease, renew(0, p))
	}
	b.refused(api.ErrLease, renew(2, nth(1))) // another's
	b.is(renew(0, nth(1)), api.OK, held(0, x, nth(1), 7, 1), 3, 2)
	b.is(renew(0, nth(1)), api.OK, held(0, x, nth(1), 7, 1), 3, 2)
	b.is(renew(3, nth(9)), api.OK, held(3, y, nth(9), 7, 3), 3, 2)
	b.has(held(0, x, nth(1), 7, 1), held(1, x, nth(2), 5, 2), held(3, y, nth(9), 7, 3))
	b.tells(3, 9, api.OK) // no event
	b.tells(0, 9, api.OK, added(held(0, x, nth(1), 5, 1)), added(held(1, x, nth(2), 5, 2)), added(held(3, y, nth(9), 5, 3)))
	b.is(tick(3), api.OK, none, 4, 5) // host 1 alone
	b.has(held(0, x, nth(1), 7, 1), held(3, y, nth(9), 7, 3))
	b.refused(api.ErrLease, renew(1, nth(2)))
	b.is(tick(2), api.OK, none, 6, 7)
	b.refused(api.ErrLease, renew(0, nth(1)))
}

func TestP11_2Release(t *testing.T) {
	b := made(t, config())
	b.refused(api.ErrLease, release(0))
	b.ok(acquire(0, x, nth(2)), acquire(1, y, noWish), tick(1), renew(0, nth(2)))
	b.is(release(0), api.OK, held(0, x, nth(2), 6, 1), 3, 1)
	b.tells(2, 9, api.OK, removed(3, held(0, x, nth(2), 6, 1))) // as it was
	b.has(held(1, y, nth(1), 5, 2))
	b.refused(api.ErrLease, release(0))
	b.refused(api.ErrLease, release(0))
	b.is(tick(9), api.OK, none, 4, 10) // what was released does not run out as well
	b.tells(3, 9, api.OK, removed(4, held(1, y, nth(1), 5, 2)))
	b.refused(api.ErrLease, release(1))
	b.is(acquire(0, y, nth(2)), api.OK, held(0, y, nth(2), 15, 5), 5, 10) // anew
}

// A host whose lease went gets a new one that runs from then on: what is left of the old one does not end it.
func TestP11_2AnewBehindAnEnd(t *testing.T) {
	b := made(t, config())
	b.ok(acquire(0, x, nth(1)), tick(4), release(0), acquire(0, x, nth(2)))
	b.is(tick(1), api.OK, none, 3, 5)
	b.has(held(0, x, nth(2), 9, 3))
	b.is(tick(4), api.OK, none, 4, 9)
	b.ok(acquire(0, x, noWish))
	b.is(tick(4), api.OK, none, 5, 13)
	b.is(tick(1), api.OK, none, 6, 14)
}

package vault

import (
	"math"
	"testing"

	"weft/api"
)

// states is vaults of all kinds: new ones, with records behind an empty base, at the end of what is appended, behind an Image, with both areas in use, behind crashes.
func states(t *testing.T) map[string]func() both {
	empty := func() both { return begun(t, config(), api.Disk{}) }
	some := []api.Cmd{acquire(0, x, nth(2)), tick(2), acquire(3, y, nth(1)), renew(0, nth(2)), acquire(1, y, nth(2))}
	return map[string]func() both{
		"new": empty,
		"new over bytes": func() both {
			return begun(t, config(), api.Disk{A: []byte("fifteen letters"), B: []byte("some letters")})
		},
		"few":            func() both { return empty().all(some...) },
		"fifteen":        func() both { return empty().all(some...).times(10, tick(0)) },
		"sixteen":        func() both { return empty().all(some...).times(11, renew(3, nth(9))) },
		"an Image":       func() both { return empty().all(some...).times(12, acquire(1, y, nth(1))) },
		"sixteen behind": func() both { return empty().all(some...).times(12, tick(0)).times(16, renew(0, nth(2))) },
		"an Image in A":  func() both { return empty().all(some...).times(12, tick(0)).times(17, tick(0)) },
		"torn":           func() both { return empty().all(some...).tears(20, tick(1)) },
		"torn anew":      func() both { return empty().all(some...).times(11, tick(0)).tears(60, release(0)) },
		"torn base":      func() both { return empty().all(some...).times(11, tick(0)).tears(12, release(0)) },
		"answer lost":    func() both { return empty().all(some...).tears(maxArea, release(0)) },
	}
}

// nexts is commands of all kinds.
func nexts() []api.Cmd {
	return []api.Cmd{
		acquire(0, x, nth(1)), acquire(0, y, nth(2)), acquire(1, y, nth(9)), acquire(3, x, nth(9)), acquire(2, x, nth(1)),
		renew(0, nth(2)), renew(3, nth(9)), release(0), release(1), release(3), tick(0), tick(3), tick(math.MaxInt64),
	}
}

// A tear at every byte of each write: what comes back is the store ahead of the command, or behind it, and it goes on.
func TestP13_6EveryByte(t *testing.T) {
	for name, build := range states(t) {
		for _, cmd := range nexts() {
			b := build()
			d := b.v.Disk()
			if a := b.do(cmd); a.Err != api.OK {
				continue
			}
			for n := 0; ; n++ {
				b := begun(t, config(), d)
				if n%8 == 0 {
					b = build() // the same, by its own writes
				}
				now := b.m.store.Snapshot()
				c := b.tears(n, cmd)
				if !b.m.whole {
					if s := c.m.store.Snapshot(); s.Rev != now.Rev || s.Now != now.Now {
						t.Fatalf("P13.6: %s, %+v, torn behind %d: %+v, was %+v", name, cmd, n, s, now)
					}
					c.all(cmd)
				}
				c.do(acquire(2, y, nth(1)))
				c.again()
				if b.m.whole {
					break
				}
			}
		}
	}
}

// What is torn can be torn again, at the same place and at others.
func TestP13_6TornAgain(t *testing.T) {
	for _, done := range []int{0, 5, 16, 20} {
		for _, n := range []int{0, 1, 11, 12, 15, 16, 17, 20, 27, 28, 29, 30, 48} {
			b := begun(t, config(), api.Disk{})
			b.times(done, acquire(0, x, nth(1)))
			for _, more := range []int{0, 0, 1, -1, 3} {
				b = b.tears(max(n+more, 0), tick(1))
			}
			b.all(tick(1), acquire(1, y, nth(2))).times(20, tick(0)).again()
		}
	}
}

// Every command of a script may be the last: what was answered is there.
func TestP13_6EveryCommand(t *testing.T) {
	script := []api.Cmd{
		acquire(0, x, nth(99)), acquire(1, y, nth(1)), acquire(2, x, nth(1)), acquire(3, x, nth(1)), tick(2), renew(1, nth(2)), renew(1, nth(1)),
		acquire(0, y, nth(1)), acquire(0, y, nth(1)), tick(3), tick(2), release(0), acquire(2, x, nth(2)), acquire(1, x, nth(2)), release(2),
		release(2), acquire(0, y, nth(2)), tick(-1), tick(1), tick(0), renew(0, nth(2)), renew(1, nth(1)), acquire(3, y, nth(3)), tick(4), tick(1),
		acquire(2, y, nth(2)), tick(math.MaxInt64), acquire(1, x, nth(1)), acquire(1, x, nth(1)), tick(0), tick(5), acquire(0, x, nth(2)),
	}
	for cut := range script {
		for _, n := range []int{-1, 0, 1, 11, 12, 13, 16, 21, 29, 60, 150, maxArea} {
			b := begun(t, config(), api.Disk{})
			for _, cmd := range script[:cut] {
				b.do(cmd)
			}
			b.arm(n)
			for _, cmd := range script[cut:] {
				b.do(cmd)
			}
			if n >= 0 != b.v.Down() {
				t.Fatalf("P13.2: armed with %d ahead of %d: Down = %v", n, cut, b.v.Down())
			}
			c := b.again()
			for _, cmd := range script[cut:] {
				c.do(cmd)
			}
			c.again()
		}
	}
}

// Scripts of the dice, with crashes of the dice.
func TestP13_6Dice(t *testing.T) {
	roll := dice()
	for range 60 {
		c := config()
		c.Log, c.TTL, c.Max = 1+roll.Intn(8), int64(2+roll.Intn(6)), nth(1+roll.Intn(4)).Addr
		b := begun(t, c, api.Disk{})
		for range 150 {
			switch roll.Intn(12) {
			case 0:
				b.arm(roll.Intn(120) - 1)
			case 1:
				b.arm(-1)
			case 2:
				b = b.again()
			}
			if b.v.Down() && roll.Intn(3) > 0 {
				b = b.again()
			}
			w := x
			if roll.Intn(3) == 0 {
				w = y
			}
			b.do(api.Cmd{
				Kind: []int{1, 1, 1, 2, 2, 3, 4, 4, 4, 9}[roll.Intn(10)], Host: roll.Intn(6) - 1,
				Subnet: nth(roll.Intn(10)), Pub: w.pub, MAC: w.mac, N: int64(roll.Intn(5) - 1),
			})
		}
		b.again()
	}
}

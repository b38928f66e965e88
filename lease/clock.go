package lease

import "weft/timer"

// lastRev is the revision at which a store ends.
const lastRev = 1 << 40

// clock is a store's tick and its revision.
type clock struct {
	now int64
	rev int64
}

// in is the tick so many ticks from now, Never at most.
func (c *clock) in(ticks int64) int64 {
	return timer.After(c.now, ticks)
}

// room tells whether so many revisions more may be.
func (c *clock) room(count int64) bool {
	return count <= lastRev-c.rev
}

// turn goes on to the next revision, and tells it.
func (c *clock) turn() int64 {
	c.rev++
	return c.rev
}

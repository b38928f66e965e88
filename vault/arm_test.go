package vault

import (
	"math"
	"testing"

	"weft/api"
)

func TestP13_3Errors(t *testing.T) {
	b := begun(t, config(), api.Disk{})
	for _, row := range []struct {
		n    int
		want api.Errno
	}{
		{math.MinInt, api.OK}, {-2, api.OK}, {-1, api.OK}, {0, api.OK}, {1, api.OK}, {maxArea - 1, api.OK}, {maxArea, api.OK},
		{maxArea + 1, api.ErrArg}, {math.MaxInt32, api.ErrArg}, {math.MaxInt, api.ErrArg},
	} {
		if err := b.arm(row.n); err != row.want {
			t.Errorf("P13.3: Arm(%d) = %d, want %d", row.n, err, row.want)
		}
	}
	b.arm(0)
	b.do(tick(1))
	for _, n := range []int{math.MinInt, -1, 0, 1, maxArea, maxArea + 1, math.MaxInt} {
		if err := b.arm(n); err != api.ErrDown {
			t.Errorf("P13.3: down: Arm(%d) = %d", n, err)
		}
	}
	b.again().all(tick(1))
}

// What is refused leaves armed what was armed.
func TestP13_3RefusedArm(t *testing.T) {
	b := begun(t, config(), api.Disk{})
	b.arm(20)
	b.arm(maxArea + 1)
	b.do(tick(1))
	if d := b.v.Disk(); len(d.A) != 20 {
		t.Errorf("P13.3: %d bytes", len(d.A))
	}
	b = begun(t, config(), api.Disk{})
	b.arm(maxArea + 1)
	b.all(tick(1))
}

// Not armed any more: no write tears, however often it was armed.
func TestP13_3Disarmed(t *testing.T) {
	for _, n := range []int{-1, -2, -maxArea, math.MinInt} {
		b := begun(t, config(), api.Disk{})
		b.arm(0)
		b.arm(n)
		b.times(20, tick(1))
		b.arm(maxArea)
		b.arm(n)
		b.times(20, tick(1)).again()
	}
}

// The last number counts.
func TestP13_3Twice(t *testing.T) {
	for _, first := range []int{-1, 0, 5, 37, maxArea} {
		for _, second := range []int{0, 1, 15, 16, 17, 36, 37, 38, maxArea} {
			b := begun(t, config(), api.Disk{})
			b.arm(first)
			b.arm(second)
			b.do(tick(1))
			if d := b.v.Disk(); len(d.A) != min(second, 37) || !b.v.Down() {
				t.Errorf("P13.3: armed with %d, then %d: %d bytes", first, second, len(d.A))
			}
			b.again()
		}
	}
}

// Refused commands tear nothing, and leave armed what is armed.
func TestP13_3RefusedCommands(t *testing.T) {
	for _, done := range []int{0, 1, 15, 16} {
		b := begun(t, config(), api.Disk{})
		b.times(done, tick(0))
		b.arm(3)
		for _, cmd := range []api.Cmd{{}, tick(-1), release(0), renew(0, nth(1)), acquire(9, x, nth(1))} {
			if a := b.do(cmd); a.Err == api.OK || a.Err == api.ErrDown || b.v.Down() {
				t.Fatalf("P13.3: Do(%+v) = %+v", cmd, a)
			}
		}
		b.tears(3, tick(1))
		b = begun(t, config(), api.Disk{})
		b.times(done, tick(0))
		b.arm(3)
		b.do(release(0))
		if a := b.do(tick(1)); a != (api.Answer{Err: api.ErrDown}) || !b.v.Down() {
			t.Fatalf("P13.3: the next write: %+v", a)
		}
		b.again().all(tick(1))
	}
}

// Just the write's bytes, one less and one more: the answer is lost at all of them, and what is there is told by the disk.
func TestP13_3JustTheBytes(t *testing.T) {
	for _, row := range []struct {
		done  int
		cmd   api.Cmd
		bytes int // of the write
	}{
		{0, tick(1), 16 + 12 + 9}, {0, acquire(0, x, nth(1)), 16 + 12 + 17}, {1, tick(1), 21}, {1, acquire(0, x, nth(1)), 29},
		{15, tick(1), 21}, {16, tick(1), 16 + 12 + 21}, {16, acquire(0, x, nth(1)), 16 + 12 + 21 + 32 + 41}, {17, tick(1), 21},
	} {
		for _, n := range []int{row.bytes - 1, row.bytes, row.bytes + 1, maxArea} {
			b := begun(t, config(), api.Disk{})
			b.times(row.done, tick(0))
			b.arm(n)
			a := b.do(row.cmd)
			if a != (api.Answer{Err: api.ErrDown}) || !b.v.Down() || b.m.whole != (n >= row.bytes) {
				t.Fatalf("P13.3: %d done, armed with %d: %+v, %v", row.done, n, a, b.m.whole)
			}
			c := b.again()
			s, _ := c.v.Snapshot()
			if there := s.Now+s.Rev == 1; there != (n >= row.bytes) {
				t.Fatalf("P13.3: %d done, armed with %d: %+v", row.done, n, s)
			}
			c.all(row.cmd).again()
		}
	}
}

// A vault is opened not armed, whatever the one ahead of it was.
func TestP13_3OpenedNotArmed(t *testing.T) {
	b := begun(t, config(), api.Disk{})
	b.all(tick(1))
	b.arm(0)
	c := b.again()
	c.all(tick(1)).again()
	if !sameDisk(b.v.Disk(), b.m.disk()) || b.v.Down() {
		t.Error("P13.7: another vault's commands are seen")
	}
	b.tears(0, tick(1)).times(3, tick(1))
}

package nat

import (
	"testing"

	"weft/api"
)

func TestP23_6New(t *testing.T) {
	for _, row := range []struct {
		lo, hi uint16
		err    api.Errno
	}{
		{0, 0, api.ErrArg}, {0, 1, api.ErrArg}, {0, 9, api.ErrArg}, {0, 65535, api.ErrArg},
		{9, 8, api.ErrArg}, {2, 1, api.ErrArg}, {65535, 65534, api.ErrArg}, {65535, 1, api.ErrArg}, {1, 0, api.ErrArg}, {65535, 0, api.ErrArg}, {0x0100, 0x00ff, api.ErrArg},
		{1, 1, api.OK}, {9, 9, api.OK}, {65535, 65535, api.OK}, {1, 65535, api.OK}, {5, 6, api.OK}, {32768, 60999, api.OK}, {65534, 65535, api.OK}, {1, 2, api.OK},
	} {
		x, err := New(row.lo, row.hi)
		if err != row.err || (x == nil) != (err != api.OK) {
			t.Errorf("P23.6: New(%d, %d) = %v, %d", row.lo, row.hi, x != nil, err)
		}
	}
	for _, row := range [][2]uint16{{1, 1}, {5, 8}, {1, 65535}, {65535, 65535}} {
		begun(t, row[0], row[1]).check()
	}
}

// Wanted ports inside, at both ends and outside, free and taken, and the way round.
func TestP23_6Take(t *testing.T) {
	begun(t, 5, 9).takes(17, 7, 7).takes(17, 7, 8).takes(17, 7, 9).takes(17, 7, 5).takes(17, 7, 6).full(17).check()
	begun(t, 5, 9).takes(17, 5, 5).takes(17, 5, 6).takes(17, 9, 9).takes(17, 9, 7).takes(17, 9, 8).full(17).check()
	begun(t, 5, 9).takes(17, 9, 9).takes(17, 9, 5).takes(17, 5, 6).takes(17, 6, 7).takes(17, 5, 8).full(17).check()
	for _, outside := range []uint16{0, 1, 4, 10, 11, 64, 69, 73, 65535} {
		begun(t, 5, 9).takes(17, outside, 5).takes(17, outside, 6).takes(17, 7, 7).takes(17, outside, 8).takes(17, outside, 9).full(17).check()
	}
	begun(t, 5, 9).takes(17, 6, 6).takes(17, 8, 8).takes(17, 6, 7).takes(17, 6, 9).takes(17, 6, 5).full(17)
	begun(t, 9, 9).takes(6, 9, 9).full(6).gives(6, 9, api.OK).takes(6, 3, 9).full(6)
	begun(t, 65535, 65535).takes(0, 1, 65535).full(0).gives(0, 65535, api.OK).takes(0, 65535, 65535).full(0)
	begun(t, 1, 1).takes(255, 0, 1).full(255)
}

func TestP23_6Give(t *testing.T) {
	b := begun(t, 5, 9)
	for _, port := range []uint16{0, 4, 5, 7, 9, 10, 65535} {
		b.gives(17, port, api.ErrPort)
	}
	b.takes(17, 5, 5).takes(17, 7, 7).takes(17, 9, 9).takes(6, 8, 8).check()
	for _, port := range []uint16{0, 4, 6, 8, 10, 65535, 5 + 64, 7 + 64, 7 + 4096} {
		b.gives(17, port, api.ErrPort)
	}
	b.gives(6, 7, api.ErrPort).gives(1, 7, api.ErrPort).check()
	b.gives(17, 7, api.OK).check().gives(17, 7, api.ErrPort).gives(6, 8, api.OK).check().gives(6, 8, api.ErrPort).check()
	b.takes(17, 5, 6).takes(17, 5, 7).takes(17, 5, 8).full(17).check()
	b.gives(17, 5, api.OK).takes(17, 9, 5).gives(17, 9, api.OK).takes(17, 5, 9).full(17).check()
}

// Where one port alone is free, it is taken, whichever is wanted.
func TestP23_6TheLastOne(t *testing.T) {
	for _, ends := range [][2]uint16{{1, 3}, {60, 70}, {62, 130}, {65520, 65535}, {64, 127}, {63, 64}, {127, 256}} {
		b := begun(t, ends[0], ends[1])
		lo, hi := int(ends[0]), int(ends[1])
		for range hi - lo + 1 {
			b.take(6, 0)
		}
		b.full(6)
		for free := lo; free <= hi; free++ {
			for want := lo - 1; want <= hi+1; want++ {
				b.gives(6, uint16(free), api.OK).takes(6, uint16(want), uint16(free))
			}
		}
		b.full(6).check()
	}
}

// Two free ports: the one behind the wanted one comes first, and the lower one where both are behind or ahead of it.
func TestP23_6TwoFree(t *testing.T) {
	const lo, hi = 61, 131
	b := begun(t, lo, hi)
	for range hi - lo + 1 {
		b.take(17, 0)
	}
	for _, one := range []int{61, 62, 63, 64, 65, 90, 126, 127, 128, 129, 131} {
		for _, two := range []int{61, 63, 64, 65, 100, 127, 128, 130, 131} {
			for want := lo - 2; want <= hi+2 && one < two; want++ {
				b.gives(17, uint16(one), api.OK).gives(17, uint16(two), api.OK)
				first := one
				if want > one && want <= two {
					first = two
				}
				b.takes(17, uint16(want), uint16(first)).takes(17, uint16(want), uint16(one+two-first))
			}
		}
	}
	b.full(17).check()
}

// All ports there can be.
func TestP23_6AllPorts(t *testing.T) {
	x, _ := New(1, 65535)
	for port := 1; port < 1<<16; port++ {
		if got, err := x.Take(17, 0); int(got) != port || err != api.OK || x.Taken(17) != port {
			t.Fatalf("P23.6: the port %d is %d, %d", port, got, err)
		}
	}
	for _, want := range []uint16{0, 1, 40000, 65535} {
		if got, err := x.Take(17, want); got != 0 || err != api.ErrPort {
			t.Errorf("P23.6: of none: %d, %d", got, err)
		}
	}
	for port := 1; port < 1<<16; port++ {
		if err := x.Give(17, uint16(port)); err != api.OK {
			t.Fatalf("P23.6: Give(%d) = %d", port, err)
		}
		if got, err := x.Take(17, uint16(port*7919)); int(got) != port || err != api.OK {
			t.Fatalf("P23.6: the only free port %d is %d, %d", port, got, err)
		}
	}
	for port := 65535; port > 0; port-- {
		if err := x.Give(17, uint16(port)); err != api.OK || x.Taken(17) != port-1 {
			t.Fatalf("P23.6: Give(%d) = %d", port, err)
		}
	}
	for want := 65535; want > 0; want-- {
		if got, err := x.Take(17, uint16(want)); int(got) != want || err != api.OK {
			t.Fatalf("P23.6: the wanted port %d is %d, %d", want, got, err)
		}
	}
	if err := x.Give(17, 0); err != api.ErrPort {
		t.Errorf("P23.6: Give(0) = %d", err)
	}
}

// Each protocol has ports of its own.
func TestP23_6Protocols(t *testing.T) {
	b := begun(t, 5, 260)
	for proto := range 256 {
		for i := range proto%5 + 1 {
			b.takes(byte(proto), uint16(5+proto), uint16(5+(proto+i)%256))
		}
	}
	b.check()
	for proto := range 256 {
		for other := range 256 {
			if _, err := b.m.taken[[2]int{other, 5 + proto}]; !err {
				b.gives(byte(other), uint16(5+proto), api.ErrPort)
			}
		}
	}
	b.check()
	for proto := range 256 {
		b.gives(byte(proto), uint16(5+proto), api.OK)
	}
	b.check()
}

// All ports of one protocol taken leave the others theirs.
func TestP23_6FullBesideFree(t *testing.T) {
	b := begun(t, 5, 6)
	for proto := range 256 {
		b.takes(byte(proto), 6, 6).takes(byte(proto), 6, 5).full(byte(proto))
	}
	b.check().gives(100, 5, api.OK).full(99).full(101).takes(100, 6, 5).check()
}

func TestP23_6ByDice(t *testing.T) {
	r := dice()
	ends := [][2]uint16{{1, 1}, {5, 8}, {60, 70}, {1, 200}, {65400, 65535}, {32768, 33000}, {64, 128}}
	for range 300 {
		e := ends[r.Intn(len(ends))]
		b := begun(t, e[0], e[1])
		near := func() uint16 { return uint16(int(e[0]) - 2 + r.Intn(int(e[1]-e[0])+5)) }
		for range 400 {
			proto := pick[byte](r, 6, 17, 1, 0, 255)
			switch r.Intn(5) {
			case 0, 1, 2:
				b.take(proto, pick(r, near(), near(), near(), 0, uint16(r.Int())))
			default:
				b.give(proto, pick(r, near(), near(), uint16(r.Int())))
			}
		}
		b.check()
	}
}

// Two Ports beside one another, and more, in turns: none knows of another one.
func TestP23_7InTurns(t *testing.T) {
	r := dice()
	list := []both{begun(t, 5, 9), begun(t, 5, 9), begun(t, 7, 7), begun(t, 1, 300)}
	for range 3000 {
		b := list[r.Intn(len(list))]
		if r.Intn(3) > 0 {
			b.take(pick[byte](r, 6, 17), uint16(4+r.Intn(8)))
		} else {
			b.give(pick[byte](r, 6, 17), uint16(4+r.Intn(8)))
		}
		for _, b := range list {
			b.check()
		}
	}
}

// Of ports that were given back nothing is kept.
func TestP23_6NothingStays(t *testing.T) {
	b := begun(t, 5, 9)
	if b.x.taken != nil {
		t.Error("P23.6: something is kept of no ports")
	}
	for range 3 {
		for proto := range 256 {
			b.takes(byte(proto), 7, 7).takes(byte(proto), 7, 8)
		}
		if len(b.x.taken) != 256 {
			t.Errorf("P23.6: %d protocols", len(b.x.taken))
		}
		for proto := range 256 {
			b.gives(byte(proto), 8, api.OK).gives(byte(proto), 7, api.OK).gives(byte(proto), 7, api.ErrPort)
		}
		if b.check(); len(b.x.taken) != 0 {
			t.Errorf("P23.6: kept are %d protocols of which no port is taken", len(b.x.taken))
		}
	}
}

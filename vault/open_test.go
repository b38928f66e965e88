package vault

import (
	"bytes"
	"math"
	"strconv"
	"testing"

	"weft/api"
	"weft/conf"
	"weft/journal"
	"weft/lease"
)

// kinds is a record of each form, each of which may stand first.
func kinds() [][]byte {
	return [][]byte{
		plain(acquire(0, x, nth(1))),
		plain(tick(7)),
		imageOf(api.Image{}),
		imageOf(full(config(), 2).Image()),
	}
}

// full is a store in which so many hosts have a lease.
func full(c api.Config, hosts int) *lease.Store {
	s, _ := lease.New(c)
	for h := range hosts {
		s.Apply(acquire(h, y, api.Prefix{}))
	}
	return s
}

// badConfigs is configurations that conf.Check refuses, with all its errors of one field.
func badConfigs() []api.Config {
	var list []api.Config
	for _, spoil := range []func(*api.Config){
		func(c *api.Config) { *c = api.Config{} },
		func(c *api.Config) { c.TTL = 1 },
		func(c *api.Config) { c.Hosts = 0 },
		func(c *api.Config) { c.Hosts = 65 },
		func(c *api.Config) { c.Log = 0 },
		func(c *api.Config) { c.Log = 257 },
		func(c *api.Config) { c.Network.Len = 33 },
		func(c *api.Config) { c.Reserved[0].Host = 4 },
		func(c *api.Config) { c.Reserved[0].Subnet = nth(256) },
		func(c *api.Config) { c.Min, c.Max = c.Max, c.Min },
	} {
		c := config()
		spoil(&c)
		list = append(list, c)
	}
	return list
}

// badDisks is disks that the journal refuses.
func badDisks() []api.Disk {
	sound := based(plain(tick(1)))
	return []api.Disk{
		{A: make([]byte, 16)},
		{B: make([]byte, 16)},
		{A: []byte("no disk at all, but long enough")},
		{B: sound.B[:20]},
		{A: sound.B, B: make([]byte, 16)},
		{A: make([]byte, maxArea+1)},
		{B: append(bytes.Clone(sound.B[:len(sound.B)-1]), 9)},
	}
}

// badRecords is disks whose log cannot be.
func badRecords() []api.Disk {
	return []api.Disk{
		based([]byte{}), appended([]byte{}), based([]byte{6}), appended([]byte{6}), based([]byte{3, 0}), appended([]byte{3, 0}),
		based(plain(tick(1)), imageOf(api.Image{})), based(imageOf(api.Image{Rev: 1})),
	}
}

func TestP13_1Empty(t *testing.T) {
	for _, d := range []api.Disk{
		{}, {A: []byte{}, B: []byte{}}, {A: make([]byte, 15)}, {B: []byte("fifteen letters")}, {A: []byte("weft"), B: []byte("weft")},
		based(), appended(),
	} {
		b := begun(t, config(), d)
		if !sameDisk(b.v.Disk(), d) {
			t.Errorf("P13.4: Disk = %x | %x behind Open(%x | %x)", b.v.Disk().A, b.v.Disk().B, d.A, d.B)
		}
		if s, err := b.v.Snapshot(); s.Rev != 0 || s.Now != 0 || len(s.Leases) != 0 || err != api.OK {
			t.Errorf("P13.1: Snapshot = %+v, %d", s, err)
		}
		b.all(acquire(0, x, nth(2)), tick(1), release(0)).again()
	}
}

func TestP13_1FirstNamedError(t *testing.T) {
	good := appended(plain(tick(1)))
	for i, c := range badConfigs() {
		want := conf.Check(c)
		if want == api.OK {
			t.Fatalf("configuration %d is right", i)
		}
		for j, d := range append(append(badDisks(), badRecords()...), api.Disk{}, good) {
			refuses(t, "configuration "+strconv.Itoa(i)+", disk "+strconv.Itoa(j), c, d, want)
		}
	}
	for i, d := range badDisks() {
		refuses(t, "disk "+strconv.Itoa(i), config(), d, api.ErrDisk)
	}
	for i, d := range badRecords() {
		refuses(t, "records "+strconv.Itoa(i), config(), d, api.ErrState)
		// Damage goes first, though the records that the other area tells cannot be.
		d.A = make([]byte, 16)
		if len(d.B) == 0 {
			d.A, d.B = badRecords()[i].A, make([]byte, 16)
		}
		refuses(t, "damaged records "+strconv.Itoa(i), config(), d, api.ErrDisk)
	}
}

// Every form is refused with a byte missing or a byte too many, wherever the record stands.
func TestP13_1EveryLength(t *testing.T) {
	for _, rec := range append(kinds(), plain(renew(0, nth(1))), plain(release(0))) {
		ahead := [][]byte{plain(acquire(0, x, nth(1)))}
		for n := range len(rec) + 3 {
			r := joined(rec, []byte{0, 0, 0})[:n]
			if n != len(rec) {
				refuses(t, "alone", config(), based(r), api.ErrState)
				refuses(t, "alone, behind the base", config(), appended(r), api.ErrState)
				refuses(t, "behind another", config(), based(append(ahead, r)...), api.ErrState)
				refuses(t, "ahead of another", config(), appended(append([][]byte{r}, ahead...)...), api.ErrState)
			} else if rec[0] < 5 {
				begun(t, config(), based(append(ahead, r)...))
				begun(t, config(), appended(append(ahead, r)...))
			} else {
				begun(t, config(), based(r))
				begun(t, config(), appended(r))
			}
		}
	}
}

// Of each first byte the records of all lengths that a form has, and their neighbours.
func TestP13_1EveryKind(t *testing.T) {
	for kind := range 256 {
		for _, n := range []int{1, 2, 3, 6, 7, 8, 9, 10, 16, 17, 18, 19, 20, 21, 22, 62, 94} {
			rec := make([]byte, n)
			rec[0] = byte(kind)
			for _, recs := range [][][]byte{{rec}, {plain(acquire(0, x, nth(1))), rec}, {imageOf(api.Image{}), rec}} {
				_, want := opened(config(), based(recs...))
				v, err := Open(config(), based(recs...))
				if err != want || (v != nil) != (err == api.OK) {
					t.Fatalf("P13.1: Open of the records %x = %v, %d, want %d", recs, v, err, want)
				}
				right := kind == 1 && n == 17 || kind == 3 && n == 2 && len(recs) == 2 && recs[0][0] == 1 || kind == 4 && n == 9 || kind == 5 && n == 21 && len(recs) == 1
				if right != (err == api.OK) {
					t.Fatalf("P13.1: Open of the records %x = %d", recs, err)
				}
			}
		}
	}
}

func TestP13_1ImagePlaces(t *testing.T) {
	empty, two, one := imageOf(api.Image{}), imageOf(full(config(), 2).Image()), plain(tick(1))
	for _, recs := range [][][]byte{{empty}, {two}, {empty, one}, {two, one, one}, {two, plain(release(1))}} {
		begun(t, config(), based(recs...)).again()
		begun(t, config(), appended(recs...)).again()
	}
	for _, recs := range [][][]byte{{empty, empty}, {two, two}, {one, empty}, {one, two}, {two, empty}, {empty, one, empty}, {one, one, one, two}} {
		refuses(t, "an Image that is not the first", config(), based(recs...), api.ErrState)
		refuses(t, "an Image that is not the first", config(), appended(recs...), api.ErrState)
	}
	// One record may be in the base, and another behind it.
	for n := range 5 {
		recs := [][]byte{two, one, plain(release(1)), one, one}
		b := begun(t, config(), split(n, recs...))
		b.all(tick(1)).again()
		refuses(t, "a later Image", config(), split(n, one, one, one, one, empty), api.ErrState)
	}
}

// split is a disk whose log has so many records in its base, and the others behind it.
func split(n int, recs ...[]byte) api.Disk {
	d := based(recs[:n]...)
	l, _, err := journal.Open(d)
	if err != api.OK {
		panic(err)
	}
	for _, r := range recs[n:] {
		l.Append(r)
	}
	l.Sync()
	return l.Crash(0)
}

// An Image of the right form that lease.Restore refuses.
func TestP13_1ImageThatCannotBe(t *testing.T) {
	s := full(config(), 4) // host 2 finds nothing
	s.Apply(release(0))
	sound := s.Image()
	if len(sound.Leases) != 2 || len(sound.Events) != 3 {
		t.Fatalf("%+v", sound)
	}
	begun(t, config(), based(imageOf(sound)))
	for i, spoil := range []func(*api.Image){
		func(g *api.Image) { g.Rev = -1 },
		func(g *api.Image) { g.Rev = math.MinInt64 },
		func(g *api.Image) { g.Rev = 1<<40 + 1 },
		func(g *api.Image) { g.Rev++ },
		func(g *api.Image) { g.Now = -1 },
		func(g *api.Image) { g.Now = math.MinInt64 },
		func(g *api.Image) { g.Now = 5 },
		func(g *api.Image) { g.Leases[0], g.Leases[1] = g.Leases[1], g.Leases[0] },
		func(g *api.Image) { g.Leases[1] = g.Leases[0] },
		func(g *api.Image) { g.Leases[0].Host = 4 },
		func(g *api.Image) { g.Leases[0].Host = 255 },
		func(g *api.Image) { g.Leases[0].Host = 3 },
		func(g *api.Image) { g.Leases[0].Subnet = nth(3) },
		func(g *api.Image) { g.Leases[0].Subnet.Len = 25 },
		func(g *api.Image) { g.Leases[0].Subnet.Len = 255 },
		func(g *api.Image) { g.Leases[0].Pub++ },
		func(g *api.Image) { g.Leases[0].MAC[5]++ },
		func(g *api.Image) { g.Leases[0].MAC[0]++ },
		func(g *api.Image) { g.Leases[0].Until = 0 },
		func(g *api.Image) { g.Leases[0].Until = -1 },
		func(g *api.Image) { g.Leases[0].Until = math.MinInt64 },
		func(g *api.Image) { g.Leases[0].Rev = 0 },
		func(g *api.Image) { g.Leases[0].Rev = -2 },
		func(g *api.Image) { g.Leases = nil },
		func(g *api.Image) { g.Events = nil },
		func(g *api.Image) { g.Events = g.Events[1:] },
		func(g *api.Image) { g.Events[0].Rev = 1 },
		func(g *api.Image) { g.Events[0].Rev = -1 },
		func(g *api.Image) { g.Events[0].Kind = 0 },
		func(g *api.Image) { g.Events[0].Kind = 3 },
		func(g *api.Image) { g.Events[0].Kind = 255 },
		func(g *api.Image) { g.Events[2].Lease.Rev = -1 },
		func(g *api.Image) { g.Events[2].Lease.Host = 200 },
		func(g *api.Image) { g.Events[2].Lease.Subnet = nth(9) },
	} {
		img := s.Image()
		spoil(&img)
		if rec := imageOf(img); bytes.Equal(rec, imageOf(sound)) {
			t.Fatalf("image %d is the sound one", i)
		}
		refuses(t, "image "+strconv.Itoa(i), config(), based(imageOf(img)), api.ErrState)
		refuses(t, "image "+strconv.Itoa(i), config(), based(imageOf(img), plain(tick(1))), api.ErrState)
	}
	c := config()
	c.Log = 4
	refuses(t, "the Image of a smaller log", c, based(imageOf(sound)), api.ErrState)
	c = config()
	c.Hosts, c.Reserved = 3, nil
	refuses(t, "the Image of more hosts", c, based(imageOf(sound)), api.ErrState)
}

// A record whose command the store refuses, with each of its errors, wherever it stands.
func TestP13_1CommandThatIsRefused(t *testing.T) {
	for name, recs := range map[string][][]byte{
		"ErrArg, Acquire":        {plain(acquire(4, x, nth(1)))},
		"ErrArg, highest host":   {plain(acquire(255, x, nth(1)))},
		"ErrArg, host 128":       {plain(acquire(128, x, nth(1)))},
		"ErrArg, Renew":          {plain(renew(4, nth(1)))},
		"ErrArg, Release":        {plain(release(4))},
		"ErrArg, Tick -1":        {plain(tick(-1))},
		"ErrArg, lowest Tick":    {plain(tick(math.MinInt64))},
		"ErrFull":                {plain(acquire(0, x, nth(1))), plain(acquire(1, x, nth(2))), plain(acquire(2, x, nth(1)))},
		"ErrLease, Renew":        {plain(renew(0, nth(1)))},
		"ErrLease, other subnet": {plain(acquire(0, x, nth(1))), plain(renew(0, nth(2)))},
		"ErrLease, other length": {plain(acquire(0, x, nth(1))), plain(renew(0, api.Prefix{Addr: nth(1).Addr, Len: 25}))},
		"ErrLease, Release":      {plain(release(0))},
		"ErrLease, run out":      {plain(acquire(0, x, nth(1))), plain(tick(5)), plain(release(0))},
	} {
		refuses(t, name, config(), based(recs...), api.ErrState)
		refuses(t, name, config(), appended(recs...), api.ErrState)
		refuses(t, name+", and more behind it", config(), appended(append(recs, plain(tick(1)))...), api.ErrState)
		refuses(t, name+", behind an Image", config(), based(append([][]byte{imageOf(api.Image{})}, recs...)...), api.ErrState)
		for n := range len(recs) {
			begun(t, config(), appended(recs[:n]...))
		}
	}
	begun(t, config(), based(imageOf(lastRevision()), plain(renew(1, nth(2)))))
	refuses(t, "above the last revision", config(), based(imageOf(lastRevision()), plain(release(0))), api.ErrState)
}

// lastRevision is the Image of a store that has come to its last revision.
func lastRevision() api.Image {
	const last = 1 << 40
	was, is := held(1, x, nth(2), 5, last-2), held(1, x, nth(2), 5, last)
	return api.Image{
		Rev: last, Leases: []api.Lease{held(0, x, nth(1), 5, 1), is},
		Events: []api.Event{added(was), removed(last-1, was), added(is)},
	}
}

// The subnet of an Acquire's record is a wish, like any other.
func TestP13_1Wish(t *testing.T) {
	for _, row := range []struct {
		host      int
		wish, got api.Prefix
	}{
		{0, nth(1), nth(1)}, {0, nth(2), nth(2)}, {0, nth(9), nth(1)}, {0, nth(99), nth(1)}, {0, api.Prefix{}, nth(1)},
		{0, api.Prefix{Addr: nth(2).Addr, Len: 255}, nth(1)}, {0, api.Prefix{Addr: 0xffffffff, Len: 24}, nth(1)}, {3, nth(2), nth(9)}, {3, nth(9), nth(9)},
	} {
		b := begun(t, config(), appended(plain(acquire(row.host, y, row.wish))))
		l, err := b.v.Holder(row.got.Addr + 1)
		if want := held(row.host, y, row.got, 5, 1); l != want || err != api.OK {
			t.Errorf("P13.1: %+v: Holder = %+v, %d", row, l, err)
		}
	}
	// A taken one is no error, nor is one of a host that has a lease.
	b := begun(t, config(), appended(plain(acquire(0, x, nth(2))), plain(acquire(1, x, nth(2))), plain(acquire(0, y, nth(1)))))
	if s, _ := b.v.Snapshot(); len(s.Leases) != 2 || s.Leases[0] != held(1, x, nth(1), 5, 2) || s.Leases[1] != held(0, y, nth(2), 5, 3) {
		t.Errorf("P13.1: Snapshot = %+v", s)
	}
}

// Numbers at the ends of their types, and each byte of them in its place.
func TestP13_1Numbers(t *testing.T) {
	for _, n := range []int64{0, 1, 255, 256, 0x0102030405060708, math.MaxInt64 - 1, math.MaxInt64} {
		b := begun(t, config(), appended(plain(tick(n))))
		if s, err := b.v.Snapshot(); s.Now != n || err != api.OK {
			t.Errorf("P13.1: Tick %d: Snapshot = %+v, %d", n, s, err)
		}
	}
	b := begun(t, config(), appended(plain(tick(math.MaxInt64)), plain(tick(math.MaxInt64)), plain(acquire(0, x, nth(1)))))
	if l, err := b.v.Holder(nth(1).Addr); l.Until != api.Never || err != api.OK {
		t.Errorf("P13.1: at Never: %+v, %d", l, err)
	}
	odd := who{pub: 0x80ff0102, mac: api.MAC{0x80, 0x91, 0xa2, 0xb3, 0xc4, 0xd5}}
	for _, until := range []int64{math.MinInt64, -1, 0, 0x0807060504030201, math.MaxInt64} {
		l := held(0, odd, nth(2), 0x0102030405060708, 2)
		gone := held(0, odd, nth(1), until, 1)
		img := api.Image{Rev: 2, Now: 0x0102030405060707, Leases: []api.Lease{l}, Events: []api.Event{added(gone), added(l)}}
		b := begun(t, config(), based(imageOf(img)))
		events, err := b.v.Watch(0, 9)
		if err != api.OK || len(events) != 2 || events[0].Lease != gone || events[1].Lease != l {
			t.Errorf("P13.1: Until %d: Watch = %+v, %d", until, events, err)
		}
		// It is written again as it was read.
		b.times(17, tick(0))
		if recs := records(b.v.Disk()); len(recs) != 1 || !bytes.Equal(recs[0], imageOf(img)) {
			t.Errorf("P13.2: Until %d: %x", until, recs)
		}
	}
}

// Images of all sizes.
func TestP13_1Images(t *testing.T) {
	for _, hosts := range []int{1, 2, 63, 64} {
		for _, log := range []int{1, 2, 255, 256} {
			c := wide(hosts, log)
			s := full(c, hosts)
			for i := range 300 {
				s.Apply(acquire(i%hosts, who{pub: api.Addr(i * 0x01010101)}, api.Prefix{}))
				if i%7 == 0 {
					s.Apply(release(i % hosts))
				}
			}
			rec := imageOf(s.Image())
			if len(s.Image().Events) != log || len(s.Image().Leases) < hosts/2 {
				t.Fatalf("%d hosts, %d events: %d and %d", hosts, log, len(s.Image().Leases), len(s.Image().Events))
			}
			b := begun(t, c, based(rec))
			tells(t, "P13.1", b.v, s)
			b.times(17, tick(0))
			if recs := records(b.v.Disk()); len(recs) != 1 || !bytes.Equal(recs[0], rec) {
				t.Errorf("P13.2: %d hosts, %d events: another Image", hosts, log)
			}
			refuses(t, "a byte less", c, based(rec[:len(rec)-1]), api.ErrState)
			refuses(t, "a byte more", c, based(append(rec, 0)), api.ErrState)
		}
	}
}

// The numbers of leases and of events must be those of the bytes behind them.
func TestP13_1Counts(t *testing.T) {
	s := full(config(), 2)
	rec := imageOf(s.Image())
	events := 19 + 2*32
	for _, n := range []int{0, 1, 2, 3, 4, 255, 256, 257, 511, 512, 513, 0x7fff, 0x8000, 0xffff} {
		for _, at := range []int{17, events} {
			r := bytes.Clone(rec)
			r[at], r[at+1] = byte(n>>8), byte(n)
			if n == 2 {
				begun(t, config(), based(r))
			} else {
				refuses(t, "a count of "+strconv.Itoa(n), config(), based(r), api.ErrState)
			}
		}
	}
	// The longest record there may be, with a count for each of its bytes.
	long := make([]byte, 65536)
	long[0] = 5
	for _, n := range []int{0, 1, 1597, 2046, 2047, 2048, 0xffff} {
		long[17], long[18] = byte(n>>8), byte(n)
		refuses(t, "a long Image", config(), based(long), api.ErrState)
	}
	refuses(t, "a long record", config(), based(append([]byte{4}, make([]byte, 65535)...)), api.ErrState)
}

// A log may fill its area to the last byte.
func TestP13_1FullArea(t *testing.T) {
	recs := [][]byte{plain(acquire(0, x, nth(1))), plain(acquire(1, x, nth(2))), plain(release(1))}
	for range 49928 {
		recs = append(recs, plain(tick(0)))
	}
	d := appended(recs...)
	if len(d.A) != maxArea {
		t.Fatalf("%d bytes", len(d.A))
	}
	v, err := Open(config(), d)
	if err != api.OK {
		t.Fatalf("P13.1: Open = %d", err)
	}
	s := full(config(), 0)
	s.Apply(acquire(0, x, nth(1)))
	s.Apply(acquire(1, x, nth(2)))
	s.Apply(release(1))
	tells(t, "P13.1", v, s)
	if a := v.Do(tick(3)); a != s.Apply(tick(3)) {
		t.Errorf("P13.2: Do = %+v", a)
	}
	tells(t, "P13.2", v, s)
	if e := v.Disk(); !bytes.Equal(e.A, d.A) || len(e.B) != 16+12+21+32+3*41 {
		t.Errorf("P13.2: the areas have %d and %d bytes", len(e.A), len(e.B))
	}
	// One that is refused at the end of so many is refused.
	recs[len(recs)-1] = plain(tick(-1))
	refuses(t, "the last of many", config(), appended(recs...), api.ErrState)
}

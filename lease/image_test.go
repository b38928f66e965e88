package lease

import (
	"math"
	"math/rand"
	"slices"
	"testing"

	"weft/api"
)

// mayBe is the chapter's five points, word for word.
func mayBe(c api.Config, img api.Image) bool {
	if img.Rev < 0 || img.Rev > last || img.Now < 0 {
		return false
	}
	inner := func(l api.Lease) bool {
		return l.Host >= 0 && l.Host <= c.Hosts-1 && mayHave(c, l.Host, l.Subnet)
	}
	for i, l := range img.Leases {
		for _, k := range img.Leases[:i] {
			if k.Subnet.Addr >= l.Subnet.Addr || k.Host == l.Host || k.Rev == l.Rev {
				return false
			}
		}
		if !inner(l) || l.Until <= img.Now && l.Until != math.MaxInt64 || l.Rev < 1 || l.Rev > img.Rev {
			return false
		}
	}
	count := min(int64(c.Log), img.Rev)
	if int64(len(img.Events)) != count {
		return false
	}
	for i, e := range img.Events {
		if e.Rev != img.Rev-count+int64(i)+1 || e.Kind != api.Added && e.Kind != api.Removed || !inner(e.Lease) {
			return false
		}
		if e.Kind == api.Added && e.Lease.Rev != e.Rev {
			return false
		}
		if e.Kind == api.Removed && (e.Lease.Rev < 1 || e.Lease.Rev >= e.Rev) {
			return false
		}
	}
	for h := range c.Hosts {
		if !agrees(img, h) {
			return false
		}
	}
	return true
}

// agrees is the points 4 and 5, of one host.
func agrees(img api.Image, host int) bool {
	var final *api.Event
	for _, e := range img.Events {
		if e.Lease.Host == host {
			final = &e
		}
	}
	i := slices.IndexFunc(img.Leases, func(l api.Lease) bool { return l.Host == host })
	if final == nil {
		return i < 0 || img.Leases[i].Rev <= img.Rev-int64(len(img.Events))
	}
	if final.Kind == api.Removed {
		return i < 0
	}
	if i < 0 {
		return false
	}
	l := img.Leases[i]
	return l.Subnet == final.Lease.Subnet && l.Pub == final.Lease.Pub && l.MAC == final.Lease.MAC && l.Rev == final.Lease.Rev
}

// restores holds Restore's verdict against what is wanted; a refused one stays as it was.
func restores(t *testing.T, c api.Config, img api.Image, want bool) {
	t.Helper()
	was := clone(img)
	s, e := Restore(c, img)
	if mayBe(c, img) != want {
		t.Fatalf("the model says %v of %+v", !want, img)
	}
	if want && (s == nil || e != api.OK) || !want && (s != nil || e != api.ErrImage) {
		t.Fatalf("Restore(%+v) = %v, %d; it may be: %v", img, s, e, want)
	}
	if !sameImage(was, img) {
		t.Fatalf("%+v became %+v", was, img)
	}
	if want && !sameImage(s.Image(), img) {
		t.Fatalf("%+v restored is %+v", img, s.Image())
	}
}

// sample is an image with a lease whose event is gone, one that was renewed since, a reserved one, and a host that has none: of the chapter's configuration with one more subnet and five hosts.
func sample() (api.Config, api.Image) {
	c := config()
	c.Max, c.Hosts, c.Log = nth(3).Addr, 5, 4
	return c, api.Image{Rev: 6, Now: 3,
		Leases: []api.Lease{held(1, x, nth(1), 4, 2), held(0, y, nth(2), 8, 5), held(3, x, nth(9), 7, 3)},
		Events: []api.Event{
			added(held(3, x, nth(9), 6, 3)),
			removed(4, held(0, x, nth(3), 5, 1)),
			added(held(0, y, nth(2), 7, 5)),
			removed(6, held(2, x, nth(3), 6, 2)),
		}}
}

func TestP11_6Image(t *testing.T) {
	b := made(t, config())
	b.ok(acquire(1, x, nth(2)), acquire(3, y, noWish), acquire(0, x, noWish), tick(3), renew(1, nth(2)), renew(0, nth(1)), tick(2))
	img := b.s.Image()
	want := api.Image{Rev: 4, Now: 5,
		Leases: []api.Lease{held(0, x, nth(1), 8, 3), held(1, x, nth(2), 8, 1)},
		Events: []api.Event{added(held(3, y, nth(9), 5, 2)), added(held(0, x, nth(1), 5, 3)), removed(4, held(3, y, nth(9), 5, 2))}}
	if !sameImage(img, want) {
		t.Errorf("Image() = %+v, want %+v", img, want)
	}
	restores(t, config(), img, true)
}

func TestP11_6Restore(t *testing.T) {
	c, img := sample()
	restores(t, c, img, true)
	b := restored(t, c, img)
	b.is(acquire(2, x, noWish), api.OK, held(2, x, nth(3), 8, 7), 7, 3)
	b.is(acquire(4, x, noWish), api.ErrFull, none, 7, 3)
	b.is(renew(1, nth(1)), api.OK, held(1, x, nth(1), 8, 2), 7, 3)
	b.tells(2, 9, api.ErrCompacted)
	b.tells(3, 1, api.OK, removed(4, held(0, x, nth(3), 5, 1)))
	b.is(tick(4), api.OK, none, 8, 7)
	b.is(tick(1), api.OK, none, 11, 8)
	b.tells(8, 9, api.OK, removed(9, held(1, x, nth(1), 8, 2)), removed(10, held(0, y, nth(2), 8, 5)), removed(11, held(2, x, nth(3), 8, 7)))
}

// An empty image is an empty store's; one of a store that has ticked alone may be too.
func TestP11_6Empty(t *testing.T) {
	for _, now := range []int64{0, 1, 77, api.Never} {
		restores(t, config(), api.Image{Now: now}, true)
		restores(t, config(), api.Image{Now: now, Leases: []api.Lease{}, Events: []api.Event{}}, true)
		b := restored(t, config(), api.Image{Now: now})
		b.do(acquire(0, x, nth(2)))
		b.check()
	}
	s, e := Restore(config(), api.Image{})
	f, g := New(config())
	if e != api.OK || g != api.OK || !sameImage(s.Image(), f.Image()) {
		t.Errorf("%d, %d", e, g)
	}
}

// The configuration's error comes first, whatever the image.
func TestP11_6ErrorsOfCheck(t *testing.T) {
	_, good := sample()
	for want, list := range spoilt() {
		for _, c := range list {
			for _, img := range []api.Image{{}, {Rev: -1}, good} {
				if s, e := Restore(c, img); s != nil || e != want {
					t.Errorf("Restore(%+v, %+v) = %v, %d, want %d", c, img, s, e, want)
				}
			}
		}
	}
}

// breaks lays each change over the sample, which must be refused (or may be).
func breaks(t *testing.T, want bool, changes ...func(c *api.Config, m *api.Image)) {
	t.Helper()
	for i, change := range changes {
		c, img := sample()
		restores(t, c, img, true)
		change(&c, &img)
		if s, e := Restore(c, img); (e == api.OK) != want || (s != nil) != want {
			t.Errorf("change %d: %+v: %v, %d", i, img, s, e)
		}
		restores(t, c, img, want)
	}
}

// Point 1: the revision and the tick.
func TestP11_6Point1(t *testing.T) {
	for _, rev := range []int64{math.MinInt64, -6, -1, last + 1, math.MaxInt64} {
		_, img := sample()
		shifted := moved(img, rev-img.Rev) // all else fits the revision
		c, _ := sample()
		restores(t, c, shifted, false)
		restores(t, config(), api.Image{Rev: rev}, false)
	}
	for _, now := range []int64{math.MinInt64, -2, -1} {
		restores(t, config(), api.Image{Now: now}, false)
		breaks(t, false, func(_ *api.Config, m *api.Image) { m.Now = now })
	}
	c, img := sample()
	restores(t, c, moved(img, last-6), true)
	restores(t, c, moved(img, last-7), true)
	restores(t, c, moved(img, last-5), false)
	for _, now := range []int64{0, 1, 2} {
		breaks(t, true, func(_ *api.Config, m *api.Image) { m.Now = now })
	}
	// Of revision 0 to 5 there would be other events.
	for rev := range int64(6) {
		breaks(t, false, func(_ *api.Config, m *api.Image) { m.Rev = rev })
	}
	breaks(t, false, func(_ *api.Config, m *api.Image) { m.Rev = 7 })
}

// Point 2: the leases rise, none is twice, no host has two.
func TestP11_6Point2Order(t *testing.T) {
	breaks(t, false,
		func(_ *api.Config, m *api.Image) { m.Leases[0], m.Leases[1] = m.Leases[1], m.Leases[0] },
		func(_ *api.Config, m *api.Image) { m.Leases[1], m.Leases[2] = m.Leases[2], m.Leases[1] },
		func(_ *api.Config, m *api.Image) { slices.Reverse(m.Leases) },
		func(_ *api.Config, m *api.Image) { m.Leases = append(m.Leases, m.Leases[2]) },
		func(_ *api.Config, m *api.Image) { m.Leases = slices.Insert(m.Leases, 0, m.Leases[0]) },
		// Host 4 has a lease without an event, of the subnet of another: once with a revision of its own.
		func(_ *api.Config, m *api.Image) { m.Leases = slices.Insert(m.Leases, 1, held(4, x, nth(1), 9, 1)) },
		// A host twice, with another subnet and revision.
		func(_ *api.Config, m *api.Image) { m.Leases = slices.Insert(m.Leases, 2, held(1, x, nth(3), 9, 1)) },
		func(_ *api.Config, m *api.Image) { m.Leases = slices.Insert(m.Leases, 2, held(0, y, nth(3), 9, 1)) },
	)
	breaks(t, true,
		func(_ *api.Config, m *api.Image) { m.Leases = slices.Insert(m.Leases, 2, held(4, x, nth(3), 9, 1)) },
		func(_ *api.Config, m *api.Image) { m.Leases = m.Leases[1:] }, // host 1 has no event: nothing tells that it had a lease
	)
}

// A host twice of which the last stands to its event: each other word of the chapter holds.
func TestP11_6Point2HostTwice(t *testing.T) {
	c := wide(1, 5, 3, 1)
	l := held(1, x, nth(4), 9, 5)
	img := api.Image{Rev: 5, Leases: []api.Lease{held(0, x, nth(2), 9, 1), l}, Events: []api.Event{added(l)}}
	restores(t, c, img, true)
	for _, n := range []int{1, 3} {
		twice := clone(img)
		twice.Leases = slices.Insert(twice.Leases, n/2, held(1, x, nth(n), 9, 2))
		restores(t, c, twice, false)
	}
	twice := clone(img)
	twice.Leases = append(twice.Leases, held(0, x, nth(5), 9, 3))
	restores(t, c, twice, false)
	twice.Leases[2].Host = 2
	restores(t, c, twice, true)
}

// Point 2: of each lease its host, subnet, end and revision.
func TestP11_6Point2Each(t *testing.T) {
	for _, h := range []int{math.MinInt, -1, 5, 6, math.MaxInt} {
		breaks(t, false, func(_ *api.Config, m *api.Image) { m.Leases[0].Host = h })
	}
	breaks(t, true, func(_ *api.Config, m *api.Image) { m.Leases[0].Host = 4 })
	for _, p := range append(strange(), nth(0), nth(4), nth(9), nth(255)) {
		breaks(t, false, func(_ *api.Config, m *api.Image) { m.Leases[0].Subnet = p })
	}
	breaks(t, false,
		func(c *api.Config, m *api.Image) { c.Min = nth(2).Addr },         // below the row
		func(c *api.Config, m *api.Image) { c.Reserved[0].Host = 2 },      // host 3 has none reserved then
		func(c *api.Config, m *api.Image) { c.Reserved = nil },            // and 10.0.9.0 lies above the row
		func(c *api.Config, m *api.Image) { m.Leases[2].Subnet = nth(8) }, // not its own
		func(c *api.Config, m *api.Image) {
			c.Reserved = []api.Reserve{{Host: 1, Subnet: nth(7)}, {Host: 3, Subnet: nth(9)}}
		}, // host 1 has another
		func(c *api.Config, m *api.Image) {
			c.Reserved = []api.Reserve{{Host: 3, Subnet: nth(9)}, {Host: 4, Subnet: nth(1)}}
		}, // host 1 has another's
		func(c *api.Config, m *api.Image) { c.Hosts, c.Reserved = 3, nil },
	)
	breaks(t, true,
		func(c *api.Config, m *api.Image) {
			c.Reserved = []api.Reserve{{Host: 1, Subnet: nth(1)}, {Host: 3, Subnet: nth(9)}}
		},
		func(c *api.Config, m *api.Image) { c.Max, c.Reserved = nth(9).Addr, nil },
		func(c *api.Config, m *api.Image) { c.Hosts = 4 },
	)
	for _, until := range []int64{math.MinInt64, -1, 0, 2, 3} {
		breaks(t, false, func(_ *api.Config, m *api.Image) { m.Leases[0].Until = until })
	}
	for _, until := range []int64{4, 5, 1 << 50, api.Never - 1, api.Never} {
		breaks(t, true, func(_ *api.Config, m *api.Image) { m.Leases[0].Until = until })
	}
	for _, rev := range []int64{math.MinInt64, -1, 0, 3, 4, 5, 6, 7, math.MaxInt64} {
		breaks(t, false, func(_ *api.Config, m *api.Image) { m.Leases[0].Rev = rev })
	}
	breaks(t, true, func(_ *api.Config, m *api.Image) { m.Leases[0].Rev = 1 })
}

// At Now Never the only end is Never.
func TestP11_6Point2AtNever(t *testing.T) {
	l := held(0, x, nth(1), api.Never, 1)
	img := api.Image{Rev: 1, Now: api.Never, Leases: []api.Lease{l}, Events: []api.Event{added(l)}}
	restores(t, config(), img, true)
	img.Leases[0].Until--
	restores(t, config(), img, false)
	img.Now--
	restores(t, config(), img, false)
	img.Now--
	restores(t, config(), img, true)
	img.Leases[0].Until = api.Never
	b := restored(t, config(), img)
	b.is(tick(1), api.OK, none, 1, api.Never-1)
	b.is(tick(1), api.OK, none, 2, api.Never)
}

// Point 2: no two leases have one revision; both have no event, or one of them has.
func TestP11_6Point2SameRev(t *testing.T) {
	c := wide(1, 5, 4, 1)
	l := held(3, x, nth(4), 9, 5)
	img := api.Image{Rev: 5, Leases: []api.Lease{held(0, x, nth(1), 9, 1), held(1, x, nth(2), 9, 2), held(2, x, nth(3), 9, 4), l}, Events: []api.Event{added(l)}}
	restores(t, c, img, true)
	for i := range 3 {
		for j := range 4 {
			same := clone(img)
			same.Leases[i].Rev = same.Leases[j].Rev
			restores(t, c, same, i == j)
		}
	}
}

// Point 3: as many events as there must be, with the last revisions.
func TestP11_6Point3Revisions(t *testing.T) {
	breaks(t, false,
		func(_ *api.Config, m *api.Image) { m.Events = nil },
		func(_ *api.Config, m *api.Image) { m.Events = m.Events[1:] },
		func(_ *api.Config, m *api.Image) { m.Events = m.Events[:3] },
		func(_ *api.Config, m *api.Image) {
			m.Events = slices.Insert(m.Events, 0, added(held(1, x, nth(1), 9, 2)))
		},
		func(_ *api.Config, m *api.Image) { m.Events = slices.Repeat(m.Events, 1000) },
		func(c *api.Config, m *api.Image) { c.Log = 3 },
		func(c *api.Config, m *api.Image) { c.Log = 5 },
		func(c *api.Config, m *api.Image) { c.Log = 256 },
		func(_ *api.Config, m *api.Image) { slices.Reverse(m.Events) },
		func(_ *api.Config, m *api.Image) { m.Events[1], m.Events[2] = m.Events[2], m.Events[1] },
	)
	for i := range 4 {
		for _, rev := range []int64{math.MinInt64, -1, 0, 1, 2, 3, 4, 5, 6, 7, math.MaxInt64} {
			breaks(t, rev == int64(i)+3, func(_ *api.Config, m *api.Image) {
				m.Events[i].Rev = rev
				if m.Events[i].Kind == api.Added && rev != int64(i)+3 {
					m.Events[i].Lease.Rev = rev
				}
			})
		}
	}
	// A shorter log, of the last two alone.
	c, img := sample()
	c.Log = 2
	restores(t, c, img, false)
	img.Events = img.Events[2:]
	restores(t, c, img, true)
	// Fewer revisions than the log keeps: all are there, and one less is too few.
	l := held(0, x, nth(1), 9, 2)
	few := api.Image{Rev: 2, Leases: []api.Lease{l}, Events: []api.Event{added(held(0, y, nth(1), 9, 1)), added(l)}}
	restores(t, c, few, true)
	c.Log = 3
	restores(t, c, few, true)
	few.Events = few.Events[1:]
	restores(t, c, few, false)
	c.Log = 1
	restores(t, c, few, true)
}

// Point 3: of each event its kind, host, subnet, and its lease's revision.
func TestP11_6Point3Each(t *testing.T) {
	for _, kind := range []int{math.MinInt, -1, 0, 3, 4, 256 + 1, 256 + 2, 1<<32 + 1, math.MaxInt} {
		for i := range 4 {
			breaks(t, false, func(_ *api.Config, m *api.Image) { m.Events[i].Kind = kind })
		}
	}
	for _, h := range []int{math.MinInt, -1, 5, 6, math.MaxInt} {
		for i := range 4 {
			breaks(t, false, func(_ *api.Config, m *api.Image) { m.Events[i].Lease.Host = h })
		}
	}
	for _, p := range append(strange(), nth(0), nth(4), nth(9), nth(255)) {
		for _, i := range []int{1, 3} {
			breaks(t, false, func(_ *api.Config, m *api.Image) { m.Events[i].Lease.Subnet = p })
		}
	}
	breaks(t, true,
		func(_ *api.Config, m *api.Image) { m.Events[3].Lease.Host = 4 },
		func(_ *api.Config, m *api.Image) { m.Events[3].Lease.Subnet = nth(1) },
		func(_ *api.Config, m *api.Image) { m.Events[1].Lease.Host = 2 },
	)
	breaks(t, false,
		func(c *api.Config, m *api.Image) { c.Max = nth(2).Addr }, // 10.0.3.0 lies above the row
		func(_ *api.Config, m *api.Image) { m.Events[3].Lease.Host = 3 },
		func(c *api.Config, _ *api.Image) {
			c.Reserved = []api.Reserve{{Host: 3, Subnet: nth(9)}, {Host: 4, Subnet: nth(3)}}
		},
	)
	for _, rev := range []int64{math.MinInt64, -1, 0, 6, 7, math.MaxInt64} {
		breaks(t, false, func(_ *api.Config, m *api.Image) { m.Events[3].Lease.Rev = rev })
	}
	for rev := int64(1); rev <= 5; rev++ {
		breaks(t, true, func(_ *api.Config, m *api.Image) { m.Events[3].Lease.Rev = rev })
	}
	for _, rev := range []int64{math.MinInt64, -1, 0, 1, 4, 6, math.MaxInt64} {
		// The lease goes along, so that the two still agree.
		breaks(t, false, func(_ *api.Config, m *api.Image) { m.Events[2].Lease.Rev, m.Leases[1].Rev = rev, rev })
	}
}

// An Added event that is not its host's last is looked at as well.
func TestP11_6Point3EarlierEvents(t *testing.T) {
	c := wide(1, 3, 2, 3)
	img := api.Image{Rev: 4, Leases: []api.Lease{held(0, y, nth(1), 9, 4)}, Events: []api.Event{added(held(0, x, nth(2), 9, 2)), removed(3, held(0, x, nth(2), 9, 2)), added(held(0, y, nth(1), 9, 4))}}
	restores(t, c, img, true)
	for i, change := range []func(e *api.Event){
		func(e *api.Event) { e.Kind = 0 }, func(e *api.Event) { e.Lease.Host = 2 }, func(e *api.Event) { e.Lease.Host = -1 },
		func(e *api.Event) { e.Lease.Subnet = nth(4) }, func(e *api.Event) { e.Lease.Rev = 1 }, func(e *api.Event) { e.Lease.Rev = 3 },
		func(e *api.Event) { e.Kind = api.Removed }, func(e *api.Event) { e.Rev = 1 },
	} {
		m := clone(img)
		change(&m.Events[0])
		if _, e := Restore(c, m); e != api.ErrImage {
			t.Errorf("change %d: %d", i, e)
		}
		restores(t, c, m, false)
	}
}

// Point 4: the last event of a host and its lease.
func TestP11_6Point4(t *testing.T) {
	breaks(t, false,
		func(_ *api.Config, m *api.Image) { m.Leases[1].Subnet = nth(3) },
		func(_ *api.Config, m *api.Image) { m.Leases[1].Pub++ },
		func(_ *api.Config, m *api.Image) { m.Leases[1].MAC[5]++ },
		func(_ *api.Config, m *api.Image) { m.Leases[1].MAC[0]++ },
		func(_ *api.Config, m *api.Image) { m.Leases[1].Rev = 1 },
		func(_ *api.Config, m *api.Image) { m.Leases[1].Rev = 4 },
		func(_ *api.Config, m *api.Image) { m.Leases[1].Rev = 6 },
		func(_ *api.Config, m *api.Image) { m.Leases[1].Host = 4 },
		func(_ *api.Config, m *api.Image) { m.Events[2].Lease.Pub++ },
		func(_ *api.Config, m *api.Image) { m.Events[2].Lease.MAC[3]++ },
		func(_ *api.Config, m *api.Image) { m.Events[2].Lease.Subnet = nth(3) },
		func(_ *api.Config, m *api.Image) { m.Events[2].Lease.Host = 4 },
		func(_ *api.Config, m *api.Image) { m.Leases = slices.Delete(m.Leases, 1, 2) }, // Added, and no lease
		func(_ *api.Config, m *api.Image) { m.Leases = m.Leases[:2] },
		func(_ *api.Config, m *api.Image) { m.Leases = nil },
		// Removed, and a lease: one that stands to the event in each word.
		func(_ *api.Config, m *api.Image) { m.Leases = slices.Insert(m.Leases, 2, held(2, x, nth(3), 9, 1)) },
		func(_ *api.Config, m *api.Image) {
			m.Events[3] = removed(6, held(0, y, nth(2), 9, 5))
		},
	)
	breaks(t, true,
		func(_ *api.Config, m *api.Image) { m.Events[2].Lease.Until = -1 },
		func(_ *api.Config, m *api.Image) { m.Leases[1].Until = 99 },
		func(_ *api.Config, m *api.Image) {
			m.Events[3], m.Leases = removed(6, held(0, y, nth(2), 9, 5)), slices.Delete(m.Leases, 1, 2)
		},
	)
}

// Point 5: a lease without an event is older than all events.
func TestP11_6Point5(t *testing.T) {
	c := wide(1, 5, 4, 2)
	l := held(3, x, nth(4), 9, 10)
	img := api.Image{Rev: 10, Leases: []api.Lease{held(0, x, nth(1), 9, 1), l}, Events: []api.Event{removed(9, held(2, x, nth(3), 9, 7)), added(l)}}
	for rev := int64(0); rev <= 11; rev++ {
		img.Leases[0].Rev = rev
		restores(t, c, img, rev >= 1 && rev <= 8)
	}
	img.Leases[0].Rev, img.Leases[0].Host = 8, 2
	restores(t, c, img, false) // it has an event
	c.Log = 1
	img.Events, img.Leases[0].Host = img.Events[1:], 2
	img.Leases[0].Rev = 9
	restores(t, c, img, true)
	img.Leases[0].Rev = 10
	restores(t, c, img, false)
	// With the whole history in the log there is no older one.
	restores(t, wide(1, 5, 4, 9), api.Image{Rev: 1, Leases: []api.Lease{held(0, x, nth(1), 9, 1)}, Events: []api.Event{removed(1, held(1, x, nth(1), 9, 0))}}, false)
	restores(t, wide(1, 5, 4, 9), api.Image{Rev: 2, Leases: []api.Lease{held(0, x, nth(1), 9, 1)}, Events: []api.Event{removed(1, held(1, x, nth(1), 9, 0)), removed(2, held(1, x, nth(1), 9, 1))}}, false)
}

// What the chapter does not name is not looked at: an event's Until, a removed one's Pub and MAC, what earlier events of a host say of one another.
func TestP11_6NotLookedAt(t *testing.T) {
	breaks(t, true,
		func(_ *api.Config, m *api.Image) {
			for i := range m.Events {
				m.Events[i].Lease.Until = math.MinInt64 + int64(i)
			}
		},
		func(_ *api.Config, m *api.Image) { m.Events[1].Lease.Pub, m.Events[1].Lease.MAC = 77, api.MAC{7} },
		func(_ *api.Config, m *api.Image) { m.Events[3].Lease.Pub, m.Events[3].Lease.MAC = 77, api.MAC{7} },
		func(_ *api.Config, m *api.Image) { m.Events[3].Lease.Rev = 3 },         // the revision of another's lease
		func(_ *api.Config, m *api.Image) { m.Events[1].Lease.Subnet = nth(1) }, // another had it then
		func(_ *api.Config, m *api.Image) { m.Events[1].Lease.Host = 2 },        // removed twice
		func(_ *api.Config, m *api.Image) {
			m.Events[1] = removed(4, held(3, y, nth(9), 0, 1))
			m.Events[2] = added(held(3, x, nth(9), 0, 5))
			m.Leases[2].Rev = 5
			m.Leases = slices.Delete(m.Leases, 1, 2)
		},
		func(_ *api.Config, m *api.Image) { m.Leases[0].Pub, m.Leases[0].MAC = 0, api.MAC{} },
		func(_ *api.Config, m *api.Image) { m.Leases[0].Until = 1 << 60 }, // far above Now + TTL
	)
}

// Long lists are refused, and soon.
func TestP11_6LongLists(t *testing.T) {
	c := config()
	c.Network, c.SubnetLen, c.Min, c.Max, c.Reserved, c.Hosts = api.Prefix{Addr: 10 << 24, Len: 8}, 30, 10<<24, 11<<24-4, nil, 64
	leases := make([]api.Lease, 1<<20)
	for i := range leases {
		leases[i] = held(i%64, x, api.Prefix{Addr: api.Addr(10<<24 + 4*i), Len: 30}, 9, int64(i)+1)
	}
	if s, e := Restore(c, api.Image{Rev: last, Leases: leases, Events: make([]api.Event, 3)}); s != nil || e != api.ErrImage {
		t.Errorf("%v, %d", s, e)
	}
	if s, e := Restore(c, api.Image{Rev: 3, Events: make([]api.Event, 1<<20)}); s != nil || e != api.ErrImage {
		t.Errorf("%v, %d", s, e)
	}
}

// The image of every store may be, and what is restored answers as the other would.
func TestP11_6GoesOnTheSame(t *testing.T) {
	r := dice()
	for range 400 {
		c := rolled(r)
		b := made(t, c)
		for range r.Intn(60) {
			b.do(anyCmd(r, b.m))
		}
		img := b.s.Image()
		if !mayBe(c, img) {
			t.Fatalf("%+v may not be", img)
		}
		other := restored(t, c, img)
		for range 40 {
			cmd := anyCmd(r, b.m)
			if x, y := b.do(cmd), other.do(cmd); x != y {
				t.Fatalf("Apply(%+v) = %+v and %+v", cmd, x, y)
			}
			other.check()
			if !sameImage(b.s.Image(), other.s.Image()) {
				t.Fatalf("%+v and %+v", b.s.Image(), other.s.Image())
			}
		}
	}
}

// spoil changes one word of an image, or more.
func spoil(r *rand.Rand, c api.Config, img *api.Image) {
	number := func(n int64) int64 {
		return []int64{n - 1, n + 1, n - 2, n + 2, 0, 1, img.Rev, img.Rev + 1, img.Now, math.MaxInt64, math.MinInt64, r.Int63n(9)}[r.Intn(12)]
	}
	change := func(l *api.Lease) {
		switch r.Intn(6) {
		case 0:
			l.Host = r.Intn(c.Hosts+2) - 1
		case 1:
			l.Subnet = anyPrefix(r, c)
		case 2:
			w := anyWho(r)
			l.Pub = w.pub
		case 3:
			w := anyWho(r)
			l.MAC = w.mac
		case 4:
			l.Until = number(l.Until)
		case 5:
			l.Rev = number(l.Rev)
		}
	}
	switch r.Intn(12) {
	case 0:
		img.Rev = number(img.Rev)
	case 1:
		img.Now = number(img.Now)
	case 2:
		if len(img.Leases) > 0 {
			i := r.Intn(len(img.Leases))
			img.Leases = slices.Delete(img.Leases, i, i+1)
		}
	case 3:
		l := held(r.Intn(c.Hosts), anyWho(r), anyPrefix(r, c), number(img.Now), number(img.Rev))
		img.Leases = append(img.Leases, l)
		slices.SortFunc(img.Leases, func(x, y api.Lease) int { return int(int64(x.Subnet.Addr) - int64(y.Subnet.Addr)) })
	case 4:
		if len(img.Events) > 0 {
			img.Events = img.Events[1:]
		}
	case 5:
		if len(img.Events) > 0 {
			img.Events[r.Intn(len(img.Events))].Kind = r.Intn(4)
		}
	case 6:
		if len(img.Events) > 0 {
			e := &img.Events[r.Intn(len(img.Events))]
			e.Rev = number(e.Rev)
		}
	case 7, 8:
		if len(img.Leases) > 0 {
			change(&img.Leases[r.Intn(len(img.Leases))])
		}
	default:
		if len(img.Events) > 0 {
			change(&img.Events[r.Intn(len(img.Events))].Lease)
		}
	}
}

// Images that were spoilt by dice: the model says whether they may be; where they may, the restored store goes on as its model.
func TestP11_6SpoiltByDice(t *testing.T) {
	r := dice()
	may, not := 0, 0
	for range 20000 {
		c := rolled(r)
		s, _ := New(c)
		m := &model{c: c}
		for range r.Intn(30) {
			cmd := anyCmd(r, m)
			s.Apply(cmd)
			m.apply(cmd)
		}
		img := s.Image()
		if r.Intn(6) == 0 {
			img = moved(img, last-img.Rev-int64(r.Intn(3)))
		}
		for range 1 + r.Intn(2) {
			spoil(r, c, &img)
		}
		want := mayBe(c, img)
		restores(t, c, img, want)
		if !want {
			not++
			continue
		}
		may++
		b := restored(t, c, img)
		for range 5 {
			b.do(anyCmd(r, b.m))
		}
		b.check()
	}
	if may < 2000 || not < 2000 {
		t.Errorf("%d may be, %d not", may, not)
	}
}

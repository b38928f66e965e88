package lease

import (
	"cmp"
	"maps"
	"slices"
	"testing"

	"weft/api"
)

// view is leases by host, which events are folded over.
type view map[int]api.Lease

func viewOf(snap api.Snap) view {
	v := view{}
	for _, l := range snap.Leases {
		v[l.Host] = l
	}
	return v
}

func (v view) fold(e api.Event) {
	if e.Kind == api.Added {
		v[e.Lease.Host] = e.Lease
	} else {
		delete(v, e.Lease.Host)
	}
}

// list is the leases, rising, without Until.
func (v view) list() []api.Lease {
	list := slices.Collect(maps.Values(v))
	for i := range list {
		list[i].Until = 0
	}
	slices.SortFunc(list, func(x, y api.Lease) int { return cmp.Compare(x.Subnet.Addr, y.Subnet.Addr) })
	return list
}

func TestP11_5Fold(t *testing.T) {
	c := config()
	c.Log = 20
	b := made(t, c)
	b.ok(acquire(0, x, nth(2)), acquire(3, x, noWish))
	snap := b.s.Snapshot()
	b.ok(acquire(1, x, noWish), tick(2), renew(0, nth(2)), acquire(3, y, noWish), tick(3), acquire(2, y, nth(1)), release(0), acquire(0, y, noWish))
	v := viewOf(snap)
	events, e := b.watch(snap.Rev, 99)
	if e != api.OK || len(events) != 6 {
		t.Fatalf("%+v, %d", events, e)
	}
	for _, event := range events {
		v.fold(event)
	}
	if want := viewOf(b.s.Snapshot()); !slices.Equal(v.list(), want.list()) {
		t.Errorf("%+v, want %+v", v, want)
	}
	if !slices.Equal(v.list(), []api.Lease{held(2, y, nth(1), 0, 6), held(0, y, nth(2), 0, 8), held(3, y, nth(9), 0, 4)}) {
		t.Errorf("%+v", v.list())
	}
}

// Any steps: views of many times, each of which is brought on by the events behind it, some a few at a time.
func TestP11_5AnyTime(t *testing.T) {
	r := dice()
	for range 150 {
		c := rolled(r)
		c.Log = 256
		b := made(t, c)
		type follower struct {
			rev int64
			v   view
		}
		followers := []*follower{{v: view{}}}
		for range 80 {
			b.do(anyCmd(r, b.m))
			snap := b.s.Snapshot()
			if r.Intn(8) == 0 {
				followers = append(followers, &follower{rev: snap.Rev, v: viewOf(snap)})
			}
			for _, f := range followers {
				limit := 1 + r.Intn(5)
				events, e := b.s.Watch(f.rev, limit)
				if e != api.OK {
					t.Fatalf("Watch(%d, %d) = %d", f.rev, limit, e)
				}
				for _, event := range events {
					f.v.fold(event)
					f.rev = event.Rev
				}
				if f.rev == snap.Rev && !slices.Equal(f.v.list(), viewOf(snap).list()) {
					t.Fatalf("%+v, want %+v", f.v, snap)
				}
			}
		}
	}
}

package lease

import (
	"weft/api"
	"weft/conf"
)

// Image tells all that the store keeps.
func (s *Store) Image() api.Image {
	return api.Image{Rev: s.rev, Now: s.now, Leases: s.leases(), Events: s.newest(s.kept(), s.bound)}
}

// Restore gives a store from its image.
func Restore(c api.Config, img api.Image) (*Store, api.Errno) {
	if err := conf.Check(c); err != api.OK {
		return nil, err
	}
	s := empty(c)
	if !s.couldTell(img) {
		return nil, api.ErrImage
	}
	s.clock = clock{now: img.Now, rev: img.Rev}
	for _, l := range img.Leases {
		s.subnets.Claim(l.Subnet)
		s.hold(l)
	}
	for _, e := range img.Events {
		s.record(e)
	}
	return s, api.OK
}

// couldTell tells whether an image may be one of a store with this one's configuration.
func (s *Store) couldTell(img api.Image) bool {
	return numbersFit(img) && s.leasesFit(img) && s.eventsFit(img) && partsAgree(img)
}

func numbersFit(img api.Image) bool {
	return img.Rev >= 0 && img.Rev <= lastRev && img.Now >= 0
}

// leasesFit looks at the leases alone.
func (s *Store) leasesFit(img api.Image) bool {
	hosts, revs := map[int]struct{}{}, map[int64]struct{}{}
	for i, l := range img.Leases {
		if i > 0 && bySubnet(img.Leases[i-1], l) >= 0 {
			return false
		}
		if !s.leaseFits(img, l) || !first(hosts, l.Host) || !first(revs, l.Rev) {
			return false
		}
	}
	return true
}

// first lays a key to those that were seen, and tells whether it was not among them.
func first[K comparable](seen map[K]struct{}, key K) bool {
	_, twice := seen[key]
	seen[key] = struct{}{}
	return !twice
}

func (s *Store) leaseFits(img api.Image, l api.Lease) bool {
	return s.placeFits(l) && (l.Until > img.Now || l.Until == api.Never) && l.Rev >= 1 && l.Rev <= img.Rev
}

// placeFits tells whether a lease's host is one, and may have its subnet.
func (s *Store) placeFits(l api.Lease) bool {
	return l.Host >= 0 && l.Host < s.hosts && s.may(l.Host, l.Subnet)
}

// eventsFit looks at the events alone.
func (s *Store) eventsFit(img api.Image) bool {
	count := int64(len(img.Events))
	if count != min(int64(s.bound), img.Rev) {
		return false
	}
	for i, e := range img.Events {
		if e.Rev != img.Rev-count+1+int64(i) || !s.eventFits(e) {
			return false
		}
	}
	return true
}

func (s *Store) eventFits(e api.Event) bool {
	if !s.placeFits(e.Lease) {
		return false
	}
	switch e.Kind {
	case api.Added:
		return e.Lease.Rev == e.Rev
	case api.Removed:
		return e.Lease.Rev >= 1 && e.Lease.Rev < e.Rev
	}
	return false
}

// partsAgree holds the leases and the events, each of which may be, against each other.
func partsAgree(img api.Image) bool {
	live, last := map[int]api.Lease{}, map[int]api.Event{}
	for _, l := range img.Leases {
		live[l.Host] = l
	}
	for _, e := range img.Events {
		last[e.Lease.Host] = e
	}
	for host, e := range last {
		l, has := live[host]
		if has != (e.Kind == api.Added) || has && !sameButUntil(e.Lease, l) {
			return false
		}
	}
	gone := img.Rev - int64(len(img.Events))
	for host, l := range live {
		if _, told := last[host]; !told && l.Rev > gone {
			return false
		}
	}
	return true
}

// sameButUntil leaves Until out: renewals move it, and no event tells of them.
func sameButUntil(x, y api.Lease) bool {
	x.Until = y.Until
	return x == y
}

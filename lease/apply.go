package lease

import (
	"cmp"
	"slices"

	"weft/api"
)

// Apply carries out a command.
func (s *Store) Apply(cmd api.Cmd) api.Answer {
	l, err := s.carryOut(cmd)
	return api.Answer{Err: err, Lease: l, Rev: s.rev, Now: s.now}
}

func (s *Store) carryOut(cmd api.Cmd) (api.Lease, api.Errno) {
	if err := s.check(cmd); err != api.OK {
		return api.Lease{}, err
	}
	switch cmd.Kind {
	case api.Acquire:
		return s.acquire(cmd)
	case api.Renew:
		return s.renew(cmd.Host, cmd.Subnet)
	case api.Release:
		return s.release(cmd.Host)
	}
	return api.Lease{}, s.tick(cmd.N)
}

// check tells what is wrong with a command, whatever is leased.
func (s *Store) check(cmd api.Cmd) api.Errno {
	switch cmd.Kind {
	case api.Acquire, api.Renew, api.Release:
		if cmd.Host < 0 || cmd.Host >= s.hosts {
			return api.ErrArg
		}
	case api.Tick:
		if cmd.N < 0 {
			return api.ErrArg
		}
	default:
		return api.ErrCmd
	}
	return api.OK
}

func (s *Store) acquire(cmd api.Cmd) (api.Lease, api.Errno) {
	l, has := s.live[cmd.Host]
	if has && l.Pub == cmd.Pub && l.MAC == cmd.MAC {
		return s.extend(l), api.OK
	}
	// Asked ahead of the pool, so that nothing need be given back: the error is the same.
	if !s.room(1) {
		return api.Lease{}, api.ErrFull
	}
	if !has {
		subnet, err := s.choose(cmd.Host, cmd.Subnet)
		if err != api.OK {
			return api.Lease{}, err
		}
		l = api.Lease{Host: cmd.Host, Subnet: subnet}
	}
	l.Pub, l.MAC = cmd.Pub, cmd.MAC
	return s.add(l), api.OK
}

// choose takes a subnet for a host that has none: its own, the wish or the lowest free one.
func (s *Store) choose(host int, wish api.Prefix) (api.Prefix, api.Errno) {
	if own, ok := s.reserved[host]; ok {
		return own, s.subnets.Claim(own)
	}
	if s.may(host, wish) && s.subnets.Claim(wish) == api.OK {
		return wish, api.OK
	}
	return s.subnets.Take()
}

func (s *Store) renew(host int, subnet api.Prefix) (api.Lease, api.Errno) {
	l, has := s.live[host]
	if !has || l.Subnet != subnet {
		return api.Lease{}, api.ErrLease
	}
	return s.extend(l), api.OK
}

func (s *Store) release(host int) (api.Lease, api.Errno) {
	l, has := s.live[host]
	if !has {
		return api.Lease{}, api.ErrLease
	}
	if !s.room(1) {
		return api.Lease{}, api.ErrFull
	}
	s.ends.Drop(host)
	s.remove(l)
	return l, api.OK
}

func (s *Store) tick(n int64) api.Errno {
	now := s.in(n)
	if !s.room(s.endedBy(now)) {
		return api.ErrFull
	}
	s.now = now
	for _, l := range s.takeEnded() {
		s.remove(l)
	}
	return api.OK
}

// endedBy counts the leases that have run out at a tick. The timers are not asked: what they tell they no longer hold, and the Tick may yet be refused.
func (s *Store) endedBy(now int64) int64 {
	count := int64(0)
	for _, l := range s.live {
		if l.Until <= now {
			count++
		}
	}
	return count
}

// takeEnded takes the deadlines out that are due, and tells their leases in the order in which they go: the timers' order for one tick is that of the hosts.
func (s *Store) takeEnded() []api.Lease {
	var ended []api.Lease
	for _, host := range s.ends.Due(s.now) {
		ended = append(ended, s.live[host])
	}
	slices.SortFunc(ended, func(x, y api.Lease) int {
		return cmp.Or(cmp.Compare(x.Until, y.Until), bySubnet(x, y))
	})
	return ended
}

// extend lets a lease run from now on.
func (s *Store) extend(l api.Lease) api.Lease {
	l.Until = s.in(s.ttl)
	s.hold(l)
	return l
}

// hold puts a lease among the live ones, in the place of what its host had.
func (s *Store) hold(l api.Lease) {
	s.live[l.Host] = l
	s.ends.Set(l.Host, l.Until)
}

// add makes a lease live under a revision of its own.
func (s *Store) add(l api.Lease) api.Lease {
	l.Rev = s.turn()
	l = s.extend(l)
	s.record(api.Event{Rev: l.Rev, Kind: api.Added, Lease: l})
	return l
}

// remove ends a lease whose deadline has been taken out.
func (s *Store) remove(l api.Lease) {
	delete(s.live, l.Host)
	s.subnets.Free(l.Subnet)
	s.record(api.Event{Rev: s.turn(), Kind: api.Removed, Lease: l})
}

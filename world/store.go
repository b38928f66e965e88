package world

import (
	"slices"

	"weft/api"
	"weft/vault"
	"weft/watch"
)

// store is what an agent may ask of the store.
type store interface {
	Snapshot() (api.Snap, api.Errno)
	Command(cmd api.Cmd) api.Answer
	Follow(host int, from int64, limit int) ([]api.Event, api.Errno)
}

// server is the store's process: the vault, and the hub that hands its events out.
type server struct {
	*vault.Vault
	config    api.Config
	hub       *watch.Hub
	published int64 // the hub's revision, which is the vault's whenever that is up
	clock     int64 // the tick that was heard of last; a vault that is down tells none
}

// openServer starts the process over a disk.
func openServer(c api.Config, d api.Disk) (*server, api.Errno) {
	c.Reserved = slices.Clone(c.Reserved)
	s := &server{config: c}
	if err := s.open(d); err != api.OK {
		return nil, err
	}
	return s, api.OK
}

// open starts the process anew; if that is refused the old one goes on. Whether the configuration may be is the first thing that the vault looks at.
func (s *server) open(d api.Disk) api.Errno {
	v, err := vault.Open(s.config, d)
	if err != api.OK {
		return err
	}
	snap, _ := v.Snapshot() // no vault is down when it is opened
	s.Vault = v
	s.clock = snap.Now
	s.renewHub(snap.Rev)
	return api.OK
}

// renewHub puts a hub without watchers in the place of the old one.
func (s *server) renewHub(rev int64) {
	s.hub, _ = watch.New(s.config.Room, rev)
	s.published = rev
}

// Command gives the vault a command, and hands out the events that come of it.
func (s *server) Command(cmd api.Cmd) api.Answer {
	answer := s.Do(cmd)
	if answer.Err == api.OK {
		s.clock = answer.Now
		s.publish(answer.Rev)
	}
	return answer
}

// publish hands out all events up to a revision. Where the log has not kept them all no watcher can go on: each will come and ask anew.
func (s *server) publish(rev int64) {
	if rev == s.published {
		return
	}
	events, err := s.Watch(s.published, int(rev-s.published))
	if err != api.OK {
		s.renewHub(rev)
		return
	}
	s.hub.Publish(events...)
	s.published = rev
}

// Follow tells a host the events behind a revision: those that the hub holds for it, else those of the log.
func (s *server) Follow(host int, from int64, limit int) ([]api.Event, api.Errno) {
	if s.Down() {
		return nil, api.ErrDown
	}
	if events, err := s.hub.Poll(host, from, limit); err == api.OK {
		return events, api.OK
	}
	s.hub.Leave(host)
	events, err := s.Watch(from, limit)
	if err != api.OK {
		return nil, err
	}
	// The hub lets in just who has seen all; the others go on with the log.
	s.hub.Join(host, from+int64(len(events)))
	return events, api.OK
}

// line is a host's way to the store, on which a call, or the answer to it, can get lost.
type line struct {
	store
	fail, mute bool
}

// call hands on what an agent asks of the store. Whoever waits cannot tell a call that was lost from a lost answer, nor either from a store that is down.
func (l *line) call(host int, req api.Req) api.Resp {
	lost := api.Resp{Err: api.ErrDown}
	if l.fail {
		l.fail = false
		return lost
	}
	resp := l.ask(host, req)
	if l.mute {
		l.mute = false
		return lost
	}
	return resp
}

func (l *line) ask(host int, req api.Req) api.Resp {
	switch req.Kind {
	case api.ReqSnapshot:
		snap, err := l.Snapshot()
		return api.Resp{Err: err, Snap: snap}
	case api.ReqWatch:
		events, err := l.Follow(host, req.From, req.Max)
		return api.Resp{Err: err, Events: events}
	}
	answer := l.Command(req.Cmd) // to acquire or to renew
	return api.Resp{Err: answer.Err, Answer: answer}
}

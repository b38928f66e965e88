package frag

import (
	"cmp"
	"slices"

	"weft/api"
	"weft/timer"
)

const (
	maxRoom = 256
	maxLife = 1 << 40
)

// Asm holds pieces till their datagrams are whole.
type Asm struct {
	room   int
	life   int64
	now    int64
	last   int // the number of the datagram that was begun last
	held   map[key]*datagram
	timers *timer.Timers // by the datagrams' numbers, the ticks at which they are given up
}

// New gives an empty one.
func New(room int, life int64) (*Asm, api.Errno) {
	if room < 1 || room > maxRoom || life < 1 || life > maxLife {
		return nil, api.ErrArg
	}
	timers, err := timer.New(room)
	if err != api.OK {
		return nil, err
	}
	return &Asm{room: room, life: life, held: map[key]*datagram{}, timers: timers}, api.OK
}

// Add takes a piece in.
func (a *Asm) Add(p api.Packet) (api.Packet, api.Errno) {
	if err := fault(p); err != api.OK {
		return api.Packet{}, err
	}
	k := keyOf(p.Head)
	if isWhole(p) {
		a.letGo(k)
		return fresh(p), api.OK
	}
	d, held := a.held[k]
	if !held {
		d = &datagram{}
	}
	if d.contradicts(p) {
		return api.Packet{}, api.ErrClash
	}
	if d.isWholeWith(p) {
		return a.finish(k, d.joined(p))
	}
	if !held {
		a.begin(k, d)
	}
	d.take(p)
	a.prolong(d, p.Head.TTL)
	return api.Packet{}, api.ErrMore
}

// finish answers a datagram that has become whole, unless no packet can be so long.
func (a *Asm) finish(k key, whole api.Packet) (api.Packet, api.Errno) {
	if err := fault(whole); err != api.OK {
		return api.Packet{}, err
	}
	a.letGo(k)
	return whole, api.OK
}

// begin holds a new datagram. Numbers rise, so that of equal times the timers put the datagram first that was begun first.
func (a *Asm) begin(k key, d *datagram) {
	if len(a.held) == a.room {
		first, _, _ := a.timers.Next()
		a.timers.Drop(first)
		a.giveUp(first)
	}
	a.last++
	d.number = a.last
	a.held[k] = d
}

// prolong never brings the end nearer: a piece may have less time left than one that came ahead of it.
func (a *Asm) prolong(d *datagram, ttl byte) {
	span := min(max(int64(ttl), 1), a.life)
	until, _ := a.timers.When(d.number) // 0 for a new one, and no end is so early
	a.timers.Set(d.number, max(until, timer.After(a.now, span)))
}

func (a *Asm) letGo(k key) {
	if d, held := a.held[k]; held {
		a.timers.Drop(d.number)
		delete(a.held, k)
	}
}

// giveUp deletes the datagrams of these numbers, whose timers are out already.
func (a *Asm) giveUp(numbers ...int) {
	for k, d := range a.held {
		if slices.Contains(numbers, d.number) {
			delete(a.held, k)
		}
	}
}

// Tick lets time go by: how many datagrams were given up.
func (a *Asm) Tick(n int64) int {
	if n < 0 {
		return 0
	}
	a.now = timer.After(a.now, n)
	due := a.timers.Due(a.now)
	a.giveUp(due...)
	return len(due)
}

// Held tells what is held.
func (a *Asm) Held() []api.Hold {
	var list []api.Hold
	for k, d := range a.held {
		until, _ := a.timers.When(d.number)
		list = append(list, api.Hold{Src: k.src, Dst: k.dst, Proto: k.proto, ID: k.id, Bytes: d.bytes, Until: until})
	}
	slices.SortFunc(list, byKey)
	return list
}

func byKey(a, b api.Hold) int {
	return cmp.Or(
		cmp.Compare(a.Src, b.Src),
		cmp.Compare(a.Dst, b.Dst),
		cmp.Compare(a.Proto, b.Proto),
		cmp.Compare(a.ID, b.ID),
	)
}

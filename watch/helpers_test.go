package watch

import (
	"math"
	"math/rand"
	"runtime"
	"slices"
	"testing"
	"time"

	"weft/api"
)

// top is the highest revision that a hub may begin at.
const top = 1152921504606846976

// dice rolls the same way in every run.
func dice() *rand.Rand {
	return rand.New(rand.NewSource(14))
}

// event is the one of a revision, with something of the revision in every field.
func event(rev int64) api.Event {
	return api.Event{Rev: rev, Kind: int(rev%5) - 1, Lease: api.Lease{
		Host: int(rev * 11), Subnet: api.Prefix{Addr: api.Addr(rev << 8), Len: int(rev % 40)},
		Pub: api.Addr(rev * 3), MAC: api.MAC{byte(rev), 5: byte(rev >> 8)}, Until: -rev, Rev: rev * 7,
	}}
}

func events(revs ...int64) []api.Event {
	list := make([]api.Event, len(revs))
	for i, rev := range revs {
		list[i] = event(rev)
	}
	return list
}

// span is the events of the revisions from first to last.
func span(first, last int64) []api.Event {
	var list []api.Event
	for rev := first; rev <= last; rev++ {
		list = append(list, event(rev))
	}
	return list
}

func revsOf(evs []api.Event) []int64 {
	list := make([]int64, len(evs))
	for i, ev := range evs {
		list[i] = ev.Rev
	}
	return list
}

// model is a hub by the chapter's words: it keeps all that was ever published, and a watcher is nothing but what it has acknowledged.
type model struct {
	room   int
	begin  int64
	log    []api.Event // the first one's revision is begin + 1
	seen   map[int]int64
	lagged map[int]bool
}

func (m *model) rev() int64 { return m.begin + int64(len(m.log)) }

func (m *model) join(id int, at int64) api.Errno {
	if id < 0 || id > 63 {
		return api.ErrArg
	}
	if _, live := m.seen[id]; live {
		return api.ErrDup
	}
	if at != m.rev() {
		return api.ErrSeq
	}
	delete(m.lagged, id)
	m.seen[id] = at
	return api.OK
}

func (m *model) leave(id int) api.Errno {
	_, live := m.seen[id]
	if !live && !m.lagged[id] {
		return api.ErrGone
	}
	delete(m.seen, id)
	delete(m.lagged, id)
	return api.OK
}

func (m *model) publish(evs []api.Event) (int, api.Errno) {
	for i, ev := range evs {
		if i == 0 && ev.Rev != m.rev()+1 || i > 0 && ev.Rev != evs[i-1].Rev+1 {
			return 0, api.ErrOrder
		}
	}
	m.log = append(m.log, evs...)
	for id, seen := range m.seen {
		if m.rev()-seen > int64(m.room) {
			delete(m.seen, id)
			m.lagged[id] = true
		}
	}
	return len(m.seen), api.OK
}

func (m *model) poll(id int, from int64, limit int) ([]api.Event, api.Errno) {
	if from < 0 || limit < 1 {
		return nil, api.ErrArg
	}
	if _, _, err := m.held(id); err != api.OK {
		return nil, err
	}
	if from < m.seen[id] || from > m.rev() {
		return nil, api.ErrSeq
	}
	m.seen[id] = from
	list := m.log[from-m.begin:]
	return slices.Clone(list[:min(limit, len(list))]), api.OK
}

func (m *model) held(id int) (int, int64, api.Errno) {
	if m.lagged[id] {
		return 0, 0, api.ErrLag
	}
	seen, live := m.seen[id]
	if !live {
		return 0, 0, api.ErrGone
	}
	return int(m.rev() - seen), seen, api.OK
}

// both is a hub beside its model: each call asks both, and holds their answers against each other.
type both struct {
	t *testing.T
	h *Hub
	m *model
}

func begun(t *testing.T, room int, at int64) both {
	t.Helper()
	h, err := New(room, at)
	if h == nil || err != api.OK {
		t.Fatalf("P14.1: New(%d, %d) = %v, %d", room, at, h, err)
	}
	return both{t, h, &model{room: room, begin: at, seen: map[int]int64{}, lagged: map[int]bool{}}}
}

func (b both) join(id int, at int64) api.Errno {
	b.t.Helper()
	got, want := b.h.Join(id, at), b.m.join(id, at)
	if got != want {
		b.t.Fatalf("P14.2: Join(%d, %d) = %d, want %d", id, at, got, want)
	}
	return got
}

// joined lets watchers in at the hub's revision.
func (b both) joined(ids ...int) both {
	b.t.Helper()
	for _, id := range ids {
		if err := b.join(id, b.m.rev()); err != api.OK {
			b.t.Fatalf("P14.2: Join(%d, %d) = %d", id, b.m.rev(), err)
		}
	}
	return b
}

func (b both) leave(id int) api.Errno {
	b.t.Helper()
	got, want := b.h.Leave(id), b.m.leave(id)
	if got != want {
		b.t.Fatalf("P14.2: Leave(%d) = %d, want %d", id, got, want)
	}
	return got
}

func (b both) publish(evs ...api.Event) (int, api.Errno) {
	b.t.Helper()
	n, err := b.h.Publish(evs...)
	m, want := b.m.publish(evs)
	if n != m || err != want {
		b.t.Fatalf("P14.3: Publish(%v) = %d, %d, want %d, %d", revsOf(evs), n, err, m, want)
	}
	return n, err
}

// more publishes the next n events, of which so many watchers are live then.
func (b both) more(n int, live int) both {
	b.t.Helper()
	rev := b.m.rev()
	if got, err := b.publish(span(rev+1, rev+int64(n))...); got != live || err != api.OK {
		b.t.Fatalf("P14.3: Publish of %d events behind %d = %d, %d, want %d", n, rev, got, err, live)
	}
	return b
}

func (b both) poll(id int, from int64, limit int) ([]api.Event, api.Errno) {
	b.t.Helper()
	got, err := b.h.Poll(id, from, limit)
	want, wantErr := b.m.poll(id, from, limit)
	if err != wantErr || !slices.Equal(got, want) {
		b.t.Fatalf("P14.4: Poll(%d, %d, %d) = %v, %d, want %v, %d", id, from, limit, revsOf(got), err, revsOf(want), wantErr)
	}
	return got, err
}

func (b both) held(id int) (int, int64, api.Errno) {
	b.t.Helper()
	n, seen, err := b.h.Held(id)
	m, wantSeen, want := b.m.held(id)
	if n != m || seen != wantSeen || err != want {
		b.t.Fatalf("P14.5: Held(%d) = %d, %d, %d, want %d, %d, %d", id, n, seen, err, m, wantSeen, want)
	}
	return n, seen, err
}

// check asks for all that a hub holds. Nothing of it changes anything.
func (b both) check() both {
	b.t.Helper()
	for id := -1; id <= 64; id++ {
		if _, seen, err := b.held(id); err == api.OK {
			b.poll(id, seen, math.MaxInt)
			b.held(id)
		}
	}
	b.publish()
	return b
}

// settled waits till no more goroutines than these run: one that has told that it ends may need a moment for it.
func settled(t *testing.T, most int) {
	t.Helper()
	for range 400 {
		if runtime.NumGoroutine() <= most {
			return
		}
		time.Sleep(5 * time.Millisecond)
	}
	t.Fatalf("P14.6: %d goroutines are left", runtime.NumGoroutine()-most)
}

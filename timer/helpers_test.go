package timer

import (
	"cmp"
	"math"
	"math/rand"
	"slices"
	"testing"

	"weft/api"
)

const (
	most  = math.MaxInt64
	least = math.MinInt64
)

// dice rolls the same way in every run.
func dice() *rand.Rand {
	return rand.New(rand.NewSource(4))
}

func made(t *testing.T, limit int) *Timers {
	t.Helper()
	x, e := New(limit)
	if x == nil || e != api.OK {
		t.Fatalf("New(%d) = %v, %d", limit, x, e)
	}
	return x
}

// model is the chapter's words over a plain list, which is gone through from end to end at each call.
type model struct {
	limit int
	list  []deadline
}

func (m *model) find(id int) int {
	return slices.IndexFunc(m.list, func(d deadline) bool { return d.id == id })
}

func (m *model) set(id int, at int64) api.Errno {
	if i := m.find(id); i >= 0 {
		m.list[i].at = at
		return api.OK
	}
	if len(m.list) == m.limit {
		return api.ErrFull
	}
	m.list = append(m.list, deadline{id: id, at: at})
	return api.OK
}

func (m *model) drop(id int) api.Errno {
	i := m.find(id)
	if i < 0 {
		return api.ErrNone
	}
	m.list = slices.Delete(m.list, i, i+1)
	return api.OK
}

func (m *model) when(id int) (int64, api.Errno) {
	if i := m.find(id); i >= 0 {
		return m.list[i].at, api.OK
	}
	return 0, api.ErrNone
}

func (m *model) sorted() []deadline {
	return slices.SortedFunc(slices.Values(m.list), func(a, b deadline) int {
		return cmp.Or(cmp.Compare(a.at, b.at), cmp.Compare(a.id, b.id))
	})
}

func (m *model) next() (int, int64, api.Errno) {
	if len(m.list) == 0 {
		return 0, 0, api.ErrNone
	}
	first := m.sorted()[0]
	return first.id, first.at, api.OK
}

func (m *model) due(now int64) []int {
	var ids []int
	for _, d := range m.sorted() {
		if d.at <= now {
			ids = append(ids, d.id)
		}
	}
	m.list = slices.DeleteFunc(m.list, func(d deadline) bool { return d.at <= now })
	return ids
}

// pair asks a Timers and the model the same, and holds their answers against each other.
type pair struct {
	t     *testing.T
	real  *Timers
	model model
}

func newPair(t *testing.T, limit int) *pair {
	t.Helper()
	return &pair{t: t, real: made(t, limit), model: model{limit: limit}}
}

func (p *pair) set(id int, at int64) {
	p.t.Helper()
	if got, want := p.real.Set(id, at), p.model.set(id, at); got != want {
		p.t.Fatalf("Set(%d, %d) = %d, want %d", id, at, got, want)
	}
	p.checkState()
}

func (p *pair) drop(id int) {
	p.t.Helper()
	if got, want := p.real.Drop(id), p.model.drop(id); got != want {
		p.t.Fatalf("Drop(%d) = %d, want %d", id, got, want)
	}
	p.checkState()
}

func (p *pair) when(id int) {
	p.t.Helper()
	at, e := p.real.When(id)
	wantAt, wantE := p.model.when(id)
	if at != wantAt || e != wantE {
		p.t.Fatalf("When(%d) = %d, %d, want %d, %d", id, at, e, wantAt, wantE)
	}
	p.checkState()
}

func (p *pair) next() {
	p.t.Helper()
	id, at, e := p.real.Next()
	wantID, wantAt, wantE := p.model.next()
	if id != wantID || at != wantAt || e != wantE {
		p.t.Fatalf("Next() = %d, %d, %d, want %d, %d, %d", id, at, e, wantID, wantAt, wantE)
	}
	p.checkState()
}

func (p *pair) due(now int64) {
	p.t.Helper()
	if got, want := p.real.Due(now), p.model.due(now); !slices.Equal(got, want) {
		p.t.Fatalf("Due(%d) = %v, want %v", now, got, want)
	}
	p.checkState()
}

// checkState asks for all that is held: the times of all ids, how many there are, and that nothing else is kept.
func (p *pair) checkState() {
	p.t.Helper()
	if p.real.Len() != len(p.model.list) {
		p.t.Fatalf("Len() = %d, want %d", p.real.Len(), len(p.model.list))
	}
	for _, d := range p.model.list {
		if at, e := p.real.When(d.id); at != d.at || e != api.OK {
			p.t.Fatalf("When(%d) = %d, %d, want %d, OK", d.id, at, e, d.at)
		}
	}
	checkWhole(p.t, p.real)
}

// checkWhole looks inside: the heap is in its order, the map tells its places and no others, and the spare room is empty.
func checkWhole(t *testing.T, x *Timers) {
	t.Helper()
	if len(x.places) != len(x.heap) {
		t.Fatalf("%d places of %d deadlines are kept", len(x.places), len(x.heap))
	}
	for i, d := range x.heap {
		if place, held := x.places[d.id]; !held || place != i {
			t.Fatalf("id %d stands at %d, not at %d", d.id, i, place)
		}
		if i > 0 && d.ahead(x.heap[(i-1)/2]) {
			t.Fatalf("%v at %d is ahead of %v above it", d, i, x.heap[(i-1)/2])
		}
	}
	for _, d := range x.heap[len(x.heap):cap(x.heap)] {
		if d != (deadline{}) {
			t.Fatalf("%v is left behind", d)
		}
	}
}

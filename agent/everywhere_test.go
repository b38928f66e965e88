package agent

import (
	"math"
	"math/rand"
	"slices"
	"sync"
	"testing"

	"weft/api"
)

// errnos is every number that a promise names, and others.
var errnos = []api.Errno{api.ErrFull, api.ErrLease, api.ErrCompacted, api.ErrFuture, api.ErrGone, api.ErrLag, api.ErrSeq, api.ErrDown, api.ErrArg, api.ErrOp,
	api.ErrTables, api.ErrAnswer, api.ErrTurn, api.ErrNone, -1, math.MinInt, math.MaxInt}

// anyError is an error by dice, mostly one that means something to a request of that kind.
func anyError(r *rand.Rand, kind int) api.Errno {
	if r.Intn(2) == 0 && (kind == api.ReqKernel || kind == api.ReqAcquire) {
		return api.ErrFull
	}
	return errnos[r.Intn(len(errnos))]
}

// anySnap is mostly one that may be.
func anySnap(r *rand.Rand) api.Snap {
	s := api.Snap{Rev: int64(r.Intn(20)), Now: int64(r.Intn(40))}
	for range r.Intn(7) {
		l := anyLease(r)
		if isPrefix(l.Subnet) {
			s.Leases = append(s.Leases, l)
		}
	}
	slices.SortFunc(s.Leases, func(x, y api.Lease) int { return int(prefixKey(x.Subnet)) - int(prefixKey(y.Subnet)) })
	s.Leases = slices.CompactFunc(s.Leases, func(x, y api.Lease) bool { return x.Subnet == y.Subnet })
	switch r.Intn(25) {
	case 0:
		s.Rev = []int64{math.MinInt64, -1, 0, math.MaxInt64 - 2, math.MaxInt64 - 1, math.MaxInt64}[r.Intn(6)]
	case 1:
		r.Shuffle(len(s.Leases), func(i, j int) { s.Leases[i], s.Leases[j] = s.Leases[j], s.Leases[i] })
	case 2:
		s.Leases = append(s.Leases, anyLease(r))
	}
	return s
}

// anyEvents is mostly the next ones behind a cursor.
func anyEvents(r *rand.Rand, cursor int64) []api.Event {
	list := make([]api.Event, max(0, r.Intn(7)-2))
	for i := range list {
		list[i] = api.Event{Rev: cursor + int64(i) + 1, Kind: 1 + r.Intn(2), Lease: anyLease(r)}
		for !isPrefix(list[i].Lease.Subnet) && r.Intn(20) > 0 {
			list[i].Lease = anyLease(r)
		}
	}
	if len(list) == 0 {
		return list
	}
	odd := &list[r.Intn(len(list))]
	switch r.Intn(30) {
	case 0:
		odd.Rev += int64(r.Intn(5)) - 2
	case 1:
		odd.Kind = []int{-1, 0, 3, math.MaxInt}[r.Intn(4)]
	case 2:
		return append(list, added(cursor+int64(len(list))+1, held(1, 1, 1, 1)))
	}
	return list
}

// anyResp is an answer to a request: mostly a fitting one, sometimes an error, and what the request does not ask for is anything.
func anyResp(r *rand.Rand, b both, req api.Req) api.Resp {
	resp := api.Resp{Snap: anySnap(r), Events: anyEvents(r, b.m.cursor), Tables: anyTables(r), Answer: api.Answer{Err: errnos[r.Intn(4)], Lease: anyLease(r), Rev: 3}}
	if r.Intn(12) == 0 {
		bad := unordered()
		resp.Tables = bad[r.Intn(len(bad))]
	}
	if r.Intn(6) > 0 {
		resp.Answer.Lease.Host = b.m.self.Host
	}
	if own := b.m.own(); own != nil && r.Intn(2) == 0 {
		resp.Answer.Lease.Subnet = own.Subnet
	}
	if r.Intn(10) < 3 {
		resp.Err = anyError(r, req.Kind)
	}
	if req.Kind == api.ReqKernel && r.Intn(10) < 7 {
		resp.Err = api.OK
	}
	return resp
}

// Calls by dice, against the model, with all asked behind each.
func TestP0_1AnySteps(t *testing.T) {
	r := dice()
	kinds := map[int]int{}
	for range 600 {
		s := self()
		s.Renew = []int64{1, 5, 20, 1 << 40}[r.Intn(4)]
		b := begun(t, s)
		for range 150 {
			switch r.Intn(8) {
			case 0:
				b.next(int64(r.Intn(40)))
			case 1:
				b.done(anyResp(r, b, api.Req{}))
			default:
				req := b.next(int64(r.Intn(40)))
				kinds[req.Kind]++
				b.done(anyResp(r, b, req))
			}
			b.view()
		}
	}
	for kind := api.ReqDump; kind <= api.ReqWatch; kind++ {
		if kinds[kind] < 300 {
			t.Errorf("the dice asked for %d of kind %d", kinds[kind], kind)
		}
	}
}

// No call panics, whatever it is given; beside an error stands nothing else.
func TestP0_1Anything(t *testing.T) {
	numbers := []int64{math.MinInt64, math.MinInt64 + 1, -1 << 40, -1, 0, 1, 4, 5, 63, 64, 1 << 40, 1<<40 + 1, math.MaxInt64 - 1, math.MaxInt64}
	for _, host := range numbers {
		for _, span := range numbers {
			a, err := New(api.Self{Host: int(host), Renew: span})
			if (a == nil) != (err != api.OK) {
				t.Fatalf("P0.2: New(%d, %d) = %v, %d", host, span, a, err)
			}
			Plan([]api.Lease{{Host: int(span), Subnet: api.Prefix{Len: int(host)}}}, int(host))
			Diff(tables(routes(api.Route{Dst: api.Prefix{Len: int(host)}}), nil, nil), api.Tables{})
			if a == nil {
				continue
			}
			for _, n := range numbers {
				b := both{t, a, modelOf(api.Self{Host: int(host), Renew: span})}
				b.a, _ = New(b.m.self)
				b.next(n)
				b.done(api.Resp{})
				b.next(n)
				l := api.Lease{Host: int(host), Until: n, Rev: n}
				b.done(snap(n, l))
				b.done(snap(0, l))
				for range 8 {
					b.next(n)
					b.done(grant(api.Lease{Host: int(host), Until: span, Rev: n}))
					b.done(events(added(n, l)))
					b.view()
				}
			}
		}
	}
}

// Two agents in turns, given the same lists, know nothing of each other.
func TestP16_3InTurns(t *testing.T) {
	r := dice()
	for range 60 {
		other := self()
		other.Host, other.Pub, other.MAC = 1, pub(1), mac(1)
		b, c := begun(t, self()), begun(t, other)
		d := begun(t, self())
		for range 80 {
			resp := anyResp(r, b, b.next(3))
			b.done(resp)
			c.view()
			c.next(int64(r.Intn(30)))
			c.done(resp)
			b.view()
			if r.Intn(2) == 0 {
				d.next(3)
				d.done(resp)
			}
			b.view()
			c.view()
			d.view()
		}
	}
}

// tale is all that an agent answers to the same calls. What it asks meanwhile: whether it is asked twice, and for its view.
func tale(twice bool) []api.Req {
	r := dice()
	a, _ := New(self())
	m := both{a: a, m: modelOf(self())}
	var told []api.Req
	for range 400 {
		now := int64(r.Intn(40))
		req := a.Next(now)
		if twice {
			a.View()
			a.Next(math.MaxInt64)
			a.View()
			a.Next(math.MinInt64)
		}
		told = append(told, req)
		m.m.next(now)
		resp := anyResp(r, m, req)
		told = append(told, api.Req{Kind: int(a.Done(resp))})
		m.m.done(resp)
		if twice {
			a.View()
		}
	}
	return told
}

// View and a repeated Next leave no trace.
func TestP16_13NoTrace(t *testing.T) {
	if !slices.Equal(tale(false), tale(true)) {
		t.Error("P16.13: View and a repeated Next leave a trace")
	}
}

// Agents in goroutines of their own answer as one alone does.
func TestP0_5AtTheSameTime(t *testing.T) {
	want := tale(false)
	var group sync.WaitGroup
	for i := range 8 {
		group.Go(func() {
			if !slices.Equal(tale(i%2 == 0), want) {
				t.Error("P0.5: at the same time the answers are others")
			}
		})
	}
	group.Wait()
}

package world

import (
	"math"
	"reflect"
	"runtime"
	"sync"
	"testing"
	"time"

	"weft/api"
)

// Acts by dice, against the model; every reply has what its line names and no more.
func TestP0_1AnyActs(t *testing.T) {
	for seed := range int64(60) {
		r := dice(seed)
		c := anyConfig(r, seed%2 == 0)
		b, g := begun(t, c), grind{r, c}
		for i := range 400 {
			a := g.act(nil)
			speaksOf(t, a, b.do(a))
			if i%16 == 0 {
				b.check()
			}
		}
		b.check()
	}
}

// The same with all memory that goes in and out written over.
func TestP0_3AnyActs(t *testing.T) {
	for seed := range int64(16) {
		r := dice(100 + seed)
		c := anyConfig(r, seed%2 == 0)
		b, g := begun(t, c), grind{r, c}
		for range 300 {
			b.hostile(g.act(nil))
		}
		b.check()
	}
}

// Every kind with every number at its ends: nothing panics, and beside an error nothing else is told.
func TestP0_1Anything(t *testing.T) {
	b := laden(t)
	numbers := []int64{math.MinInt64, -1, 0, 1, 2, 256, 257, 65535, 65536, 65537, 1 << 20, 1<<20 + 1, math.MaxInt64}
	for kind := api.ActTick - 1; kind <= api.ActDisk+1; kind++ {
		for _, n := range numbers {
			if kind == api.ActRound && n > 2 && n <= 256 {
				continue
			}
			for _, h := range []int{math.MinInt, -1, 0, 1, 2, 3, math.MaxInt} {
				for _, bs := range [][]byte{nil, {}, {0}, {1}, {1, 2}, run(70000)} {
					a := api.Act{Kind: kind, Host: h, N: n, At: int(n), Name: string(bs), Bytes: bs, Addr: api.Addr(n)}
					if len(bs) > 2 {
						a.Name = "long"
					}
					speaksOf(t, a, b.w.Do(a))
				}
			}
		}
		b = laden(t)
	}
}

// A refused act changes nothing, but for a Deliver to no host.
func TestP0_2RefusedChangesNothing(t *testing.T) {
	for seed := range int64(12) {
		r := dice(200 + seed)
		c := anyConfig(r, true)
		b, g := begun(t, c), grind{r, c}
		refused := 0
		for range 250 {
			was := b.everything()
			a := g.act(nil)
			reply := b.do(a)
			if reply.Err == api.OK || reply.Err == api.ErrDown || reply.Err == api.ErrHost && a.Kind == api.ActDeliver {
				continue // a write that tears is answered ErrDown, and takes the store down
			}
			pods := a.Kind == api.ActPod && (reply.Err == api.ErrName || reply.Err == api.ErrFull)
			if now := b.everything(); !pods && !reflect.DeepEqual(now, was) {
				t.Fatalf("P0.2: Do(%s), refused with %d, changed something", brief(a), reply.Err)
			}
			refused++
		}
		if refused == 0 {
			t.Errorf("no act was refused")
		}
	}
}

// everything is all that can be asked of a world.
func (b both) everything() []api.Reply {
	var all []api.Reply
	for _, kind := range []int{api.ActLeases, api.ActFlight, api.ActDisk} {
		all = append(all, twin(b.w.Do(api.Act{Kind: kind})))
	}
	for h := range b.w.hosts {
		for _, kind := range []int{api.ActTables, api.ActView, api.ActPods, api.ActCounts} {
			all = append(all, twin(b.w.Do(api.Act{Kind: kind, Host: h})))
		}
	}
	return all
}

// Questions leave no trace: a world that is asked everything behind each act answers as one that is asked nothing.
func TestP19_7QuestionsChangeNothing(t *testing.T) {
	asked := map[int]bool{api.ActLeases: true, api.ActTables: true, api.ActView: true, api.ActPods: true, api.ActFlight: true, api.ActCounts: true, api.ActHolder: true, api.ActDisk: true}
	for seed := range int64(10) {
		r := dice(300 + seed)
		c := anyConfig(r, seed%2 == 0)
		one, two, g := begun(t, c), begun(t, c), grind{r, c}
		for range 300 {
			a := g.act(asked)
			one.everything()
			one.w.Do(api.Act{Kind: api.ActHolder, Addr: cli})
			if got, want := one.w.Do(a), two.w.Do(a); !same(got, want) {
				t.Fatalf("P19.7: Do(%s) = %s, unasked %s", brief(a), brief(got), brief(want))
			}
		}
		if !reflect.DeepEqual(one.everything(), two.everything()) {
			t.Errorf("P19.7: a question changed something")
		}
	}
}

// Worlds in turns: none knows of the others, be they of one configuration or of two, over one disk or of their own.
func TestP0_5InTurns(t *testing.T) {
	r := dice(400)
	c, other := anyConfig(r, true), anyConfig(r, false)
	first := begun(t, c)
	first.calm()
	d := first.disk()
	all := []both{opened(t, c, d), opened(t, c, d), begun(t, c), begun(t, other)}
	for i := range 2500 {
		b := all[r.Intn(len(all))]
		b.do(grind{r, b.m.c}.act(nil))
		if i%50 == 0 {
			for _, b := range all {
				b.check()
			}
		}
	}
}

// Two worlds that were told the same answer the same.
func TestP0_5SameActsSameReplies(t *testing.T) {
	for seed := range int64(6) {
		r := dice(500 + seed)
		c := anyConfig(r, seed%2 == 0)
		one, two := begun(t, c), begun(t, c)
		g := grind{r, c}
		for range 300 {
			a := g.act(nil)
			got := one.w.Do(a)
			runtime.Gosched()
			a.Bytes = roomy(a.Bytes, r.Intn(9))
			if want := two.w.Do(a); !same(got, want) {
				t.Fatalf("P0.5: Do(%s) = %s, and %s", brief(a), brief(got), brief(want))
			}
		}
	}
}

// Each in a goroutine of its own: none knows of the others, though they share what is handed in.
func TestP0_5AtTheSameTime(t *testing.T) {
	c := anyConfig(dice(600), true)
	g := grind{dice(601), c}
	var acts []api.Act
	for range 400 {
		acts = append(acts, g.act(nil))
	}
	answers := make([][]api.Reply, 8)
	var wg sync.WaitGroup
	for i := range answers {
		wg.Go(func() { answers[i], _ = Run(c, acts...) })
	}
	wg.Wait()
	for i := range answers {
		for k := range acts {
			if !same(answers[i][k], answers[0][k]) {
				t.Fatalf("P0.5: Do(%s) = %s, and %s", brief(acts[k]), brief(answers[i][k]), brief(answers[0][k]))
			}
		}
	}
}

// All goroutines have ended when a call answers.
func TestP0_5NoGoroutineIsLeft(t *testing.T) {
	before := runtime.NumGoroutine()
	b := begun(t, config(withHosts(24), withRoom(1)))
	b.ok(api.Act{Kind: api.ActCalm})
	b.tick(100)
	b.ok(api.Act{Kind: api.ActCalm})
	for range 100 {
		if runtime.NumGoroutine() <= before {
			return
		}
		time.Sleep(time.Millisecond)
	}
	t.Errorf("P0.5: %d goroutines, ahead of it %d", runtime.NumGoroutine(), before)
}

// As an act's bytes nil and empty are the same.
func TestP0_4NilAndEmpty(t *testing.T) {
	b := cluster(t)
	for _, bs := range [][]byte{nil, {}} {
		b.is(b.send(0, bs), api.VBadPacket, api.ErrShort, 0)
		b.is(b.raw(0, bs), api.VBadOuter, api.ErrShort, 0)
		b.no(api.ErrArg, api.Act{Kind: api.ActSpoil, Bytes: bs})
	}
}

package flow

import (
	"slices"
	"testing"

	"weft/api"
)

// manyTuples is tuples in their order. Each two differ in one field or more, the last differing ones being smaller where the first are greater.
func manyTuples() []api.Tuple {
	return []api.Tuple{
		tup(0, 1<<32-1, 17, 65535, 65535),
		tup(1, 0, 17, 9, 9),
		tup(hostA, hostB, 1, 65535, 65535),
		tup(hostA, hostB, 6, 9, 8),
		tup(hostA, hostB, 6, 9, 9),
		tup(hostA, hostB, 6, 256, 1),
		tup(hostA, hostB, 17, 0, 65535),
		tup(hostA, hostB, 17, 1, 0),
		tup(hostA, hostB, 17, 1, 1),
		tup(hostA, hostB, 17, 1, 255),
		tup(hostA, hostB, 17, 1, 256),
		tup(hostA, hostB, 17, 1, 65535),
		tup(hostA, hostB, 17, 2, 0),
		tup(hostA, hostB+1, 1, 0, 0),
		tup(hostA, hostB+256, 6, 0, 0),
		tup(hostA, hostC, 1, 3, 3),
		tup(hostA, 1<<32-1, 6, 0, 0),
		tup(hostA+1, 0, 1, 4, 4),
		tup(hostA+1<<16, 0, 1, 4, 4),
		tup(1<<31-1, 3, 6, 3, 3),
		tup(1<<31, 2, 6, 2, 2),
		tup(1<<32-1, 0, 1, 0, 0),
	}
}

func TestP21_7ListOrder(t *testing.T) {
	want := manyTuples()
	for i := range want {
		for k := range i {
			if written(want[k]) >= written(want[i]) {
				t.Fatalf("the test's own tuples %d and %d are out of order", k, i)
			}
		}
	}
	back := slices.Clone(want)
	slices.Reverse(back)
	for _, order := range [][]api.Tuple{want, back} {
		b := begun(t, 100).opens(0, order...).check()
		for i, f := range b.list() {
			if f.There != want[i] || f.Back != turned(want[i]) {
				t.Errorf("P21.7: flow %d is %v, want %v", i, f, want[i])
			}
		}
	}
}

// Each two of a pair of tuples that differ in one field alone, or in two against each other.
func TestP21_7EachFieldCounts(t *testing.T) {
	low := tup(hostB, hostC, 6, 300, 400)
	highs := []api.Tuple{
		tup(hostD, hostC, 6, 300, 400), tup(hostD, hostA, 6, 300, 400), tup(hostD, hostC, 1, 300, 300), tup(hostD, hostC, 6, 1, 400), tup(hostD, hostC, 6, 300, 1),
		tup(hostB, hostD, 6, 300, 400), tup(hostB, hostD, 1, 300, 300), tup(hostB, hostD, 6, 1, 400), tup(hostB, hostD, 6, 300, 1),
		tup(hostB, hostC, 17, 300, 400), tup(hostB, hostC, 17, 1, 400), tup(hostB, hostC, 17, 300, 1),
		tup(hostB, hostC, 6, 301, 400), tup(hostB, hostC, 6, 512, 1), tup(hostB, hostC, 6, 300, 401), tup(hostB, hostC, 6, 300, 512),
	}
	for _, high := range highs {
		for _, order := range [][]api.Tuple{{low, high}, {high, low}} {
			b := begun(t, 2)
			for _, u := range order {
				b.opens(-firstSpan(u), u) // of one Until
			}
			for _, list := range [][]api.Flow{b.list(), b.due(0)} {
				if len(list) != 2 || list[0].There != low || list[1].There != high || list[0].Until != 0 || list[1].Until != 0 {
					t.Errorf("P21.7: %v, want %v ahead of %v", list, low, high)
				}
			}
		}
	}
}

// stateOf and firstSpan tell in which state a flow is opened, and for how long it is kept then.
func stateOf(u api.Tuple) int {
	if u.Proto == 6 {
		return api.FSyn
	}
	return api.FThere
}

func firstSpan(u api.Tuple) int64 {
	if u.Proto == 6 {
		return 120
	}
	return 30
}

// The flow's There counts for the order, and not its Back.
func TestP21_7OrderedByThereAlone(t *testing.T) {
	b := begun(t, 3)
	for i, u := range []api.Tuple{tup(hostA, hostB, 17, 2, 1), tup(hostA, hostB, 17, 3, 1), tup(hostA, hostB, 17, 1, 1)} {
		if err := b.open(u, tup(hostC, hostD, 17, uint16(9-i), 1), first(u), 5); err != api.OK {
			t.Fatalf("P21.4: %d", err)
		}
	}
	ports := func(list []api.Flow) (ports []uint16) {
		for _, f := range list {
			ports = append(ports, f.There.SrcPort)
		}
		return ports
	}
	if got := ports(b.list()); !slices.Equal(got, []uint16{1, 2, 3}) {
		t.Errorf("P21.7: List = %v", got)
	}
	if got := ports(b.due(35)); !slices.Equal(got, []uint16{1, 2, 3}) {
		t.Errorf("P21.7: Due = %v", got)
	}
}

// Due below, at and above each Until.
func TestP21_7DueEdges(t *testing.T) {
	for _, now := range []int64{-1000, -31, -30, -29, 0, 1, 100, 1 << 40, most - 1000, least, least + 1} {
		u := tup(hostA, hostB, 17, 5, 53)
		b := begun(t, 1).opens(now, u)
		until := now + 30
		for _, early := range []int64{least, now - now&1, now, until - 1} {
			if early < until && len(b.due(early)) != 0 {
				t.Fatalf("P21.7: Due(%d) takes out what is kept till %d", early, until)
			}
			b.check()
		}
		if list := b.due(until); len(list) != 1 || list[0] != (api.Flow{There: u, Back: turned(u), State: api.FThere, Until: until}) {
			t.Fatalf("P21.7: Due(%d) = %v", until, list)
		}
		if list := b.check().due(until); len(list) != 0 {
			t.Fatalf("P21.7: Due(%d) again = %v", until, list)
		}
		b.opens(now, u)
		if list := b.due(until + 1); len(list) != 1 || list[0].Until != until {
			t.Fatalf("P21.7: Due(%d) = %v", until+1, list)
		}
		b.opens(now, u)
		if list := b.due(most); len(list) != 1 {
			t.Fatalf("P21.7: Due at the last tick = %v", list)
		}
	}
}

// A flow that is kept till the last tick is due then, and not ahead of it.
func TestP21_7DueAtTheEnds(t *testing.T) {
	for _, now := range []int64{most - 31, most - 30, most - 29, most - 1, most} {
		u := tup(hostA, hostB, 17, 5, 53)
		b := begun(t, 1).opens(now, u)
		want := int64(most)
		if now == most-31 {
			want = most - 1
		}
		if f := b.list()[0]; f.Until != want {
			t.Errorf("P21.4: opened at %d, Until %d, want %d", now, f.Until, want)
		}
		if list := b.due(want - 1); len(list) != 0 {
			t.Errorf("P21.7: Due(%d) = %v", want-1, list)
		}
		if list := b.due(want); len(list) != 1 {
			t.Errorf("P21.7: Due(%d) = %v", want, list)
		}
		b.check()
	}
	b := begun(t, 1).opens(least, tup(hostA, hostB, 17, 5, 53))
	if list := b.due(least); len(list) != 0 {
		t.Errorf("P21.7: Due(%d) = %v", least, list)
	}
	if list := b.due(least + 30); len(list) != 1 {
		t.Errorf("P21.7: Due(%d) = %v", least+30, list)
	}
}

// Several of one Until, opened in any order and at other times, between flows that end ahead of them and behind.
func TestP21_7SeveralOfOneUntil(t *testing.T) {
	b := begun(t, 20)
	b.opens(10, tup(hostB, hostA, 17, 9, 1), tup(hostA, hostB, 17, 9, 1), tup(hostA, hostB, 17, 8, 2)) // till 40
	b.opens(11, tup(hostA, hostB, 17, 1, 1))                                                           // till 41
	b.opens(9, tup(hostD, hostB, 17, 1, 1))                                                            // till 39
	b.opens(-80, tup(hostA, hostB, 6, 9, 1), tup(hostC, hostB, 6, 1, 1))                               // till 40
	b.opens(10, tup(hostA, hostB, 1, 7, 7))                                                            // till 40
	u := tup(hostB, hostC, 17, 3, 3)
	b.opens(0, u)
	b.move(of(turned(u), 0), -140) // till 40
	if list := b.due(38); len(list) != 0 {
		t.Errorf("P21.7: Due(38) = %v", list)
	}
	want := []api.Tuple{
		tup(hostD, hostB, 17, 1, 1),
		tup(hostA, hostB, 1, 7, 7), tup(hostA, hostB, 6, 9, 1), tup(hostA, hostB, 17, 8, 2), tup(hostA, hostB, 17, 9, 1),
		tup(hostB, hostA, 17, 9, 1), u, tup(hostC, hostB, 6, 1, 1),
	}
	// hostB, hostA comes ahead of hostB, hostC: 10.5.1.2 is below 192.0.2.1.
	if got := thereOf(b.due(40)); !slices.Equal(got, want) {
		t.Errorf("P21.7: Due(40) = %v, want %v", got, want)
	}
	if got := thereOf(b.check().due(41)); !slices.Equal(got, []api.Tuple{tup(hostA, hostB, 17, 1, 1)}) {
		t.Errorf("P21.7: Due(41) = %v", got)
	}
	b.check()
}

func thereOf(list []api.Flow) []api.Tuple {
	var tuples []api.Tuple
	for _, f := range list {
		tuples = append(tuples, f.There)
	}
	return tuples
}

// What Due took out may come again, turned round and with another back too.
func TestP21_8ComesAgain(t *testing.T) {
	for _, proto := range []byte{1, 6, 17} {
		u := tup(hostA, hostB, proto, 7, 7)
		b := begun(t, 1)
		for range 3 {
			b.opens(0, u).move(of(turned(u), 18), 1)
			if len(b.due(1000)) != 1 {
				t.Fatal("P21.7: no flow was due")
			}
			b.check()
			for _, p := range []api.Packet{of(u, 2), of(turned(u), 2)} {
				if k := b.look(p); k != (api.Track{Kind: api.TNew}) {
					t.Errorf("P21.8: Look = %v", k)
				}
				if _, err := b.move(p, 5); err != api.ErrFlow {
					t.Errorf("P21.8: Move = %d", err)
				}
			}
			if k := b.look(about(t, of(u, 2), 3, 1, hostC)); k != (api.Track{Kind: api.TNone}) {
				t.Errorf("P21.8: Look of a fault = %v", k)
			}
			if err := b.open(turned(u), tup(hostC, hostD, proto, 9, 9), first(turned(u)), 0); err != api.OK {
				t.Errorf("P21.8: Open of what was the back: %d", err)
			}
			if f := b.list()[0]; f.State != stateOf(u) || f.Until != firstSpan(u) {
				t.Errorf("P21.8: opened again: %v", f)
			}
			b.due(1000)
			b.check()
		}
	}
}

// A flow is held till Due takes it out, however late it is.
func TestP21_6HeldTillDue(t *testing.T) {
	for _, proto := range []byte{1, 6, 17} {
		u := tup(hostA, hostB, proto, 7, 7)
		b := begun(t, 1).opens(0, u)
		for _, now := range []int64{1000, most, least, 1 << 50, -5} {
			if k := b.look(of(u, 2)); k.Kind != api.TThere {
				t.Errorf("P21.6: Look = %v", k)
			}
			if err := b.open(u, turned(u), first(u), now); err != api.ErrDup {
				t.Errorf("P21.6: Open = %d", err)
			}
			other := tup(hostC, hostB, proto, 7, 7)
			if err := b.open(other, turned(other), first(other), now); err != api.ErrFull {
				t.Errorf("P21.6: Open of another one = %d", err)
			}
			if _, err := b.move(of(u, 2), now); err != api.OK {
				t.Errorf("P21.6: Move = %d", err)
			}
			if list := b.list(); len(list) != 1 {
				t.Errorf("P21.6: List = %v", list)
			}
		}
		b.check()
	}
}

// now may go back: each move reckons from its own.
func TestP21_6NowGoesBack(t *testing.T) {
	u := tup(hostA, hostB, 17, 5, 53)
	b := begun(t, 1).opens(1000, u)
	for _, row := range []struct{ now, until int64 }{{900, 930}, {2000, 2030}, {-100, -70}, {0, 30}, {least, least + 30}, {most, most}, {5, 35}} {
		if f, _ := b.move(of(u, 0), row.now); f.Until != row.until {
			t.Errorf("P21.5: Move at %d: Until %d, want %d", row.now, f.Until, row.until)
		}
		b.check()
	}
	if list := b.due(34); len(list) != 0 {
		t.Errorf("P21.7: Due(34) = %v", list)
	}
	if list := b.due(35); len(list) != 1 {
		t.Errorf("P21.7: Due(35) = %v", list)
	}
	b.due(-1)
}

// Flows in each state, with spans of their own, go out at their own ends.
func TestP21_7MovedFlowsAreDueByTheirLastMove(t *testing.T) {
	b := begun(t, 10)
	one, two := tup(hostA, hostB, 17, 1, 1), tup(hostA, hostB, 17, 2, 2)
	b.opens(0, one, two)
	b.move(of(turned(one), 0), 5)
	if got := thereOf(b.due(30)); !slices.Equal(got, []api.Tuple{two}) {
		t.Errorf("P21.7: Due(30) = %v", got)
	}
	if got := thereOf(b.due(184)); len(got) != 0 {
		t.Errorf("P21.7: Due(184) = %v", got)
	}
	if got := thereOf(b.due(185)); !slices.Equal(got, []api.Tuple{one}) {
		t.Errorf("P21.7: Due(185) = %v", got)
	}
	b.check()
}

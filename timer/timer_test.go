package timer

import (
	"fmt"
	"math/bits"
	"slices"
	"testing"

	"weft/api"
)

func TestP4_1New(t *testing.T) {
	for _, limit := range []int{least, -65536, -1, 0, 65537, 1 << 32, 1<<32 + 1, most} {
		if x, e := New(limit); x != nil || e != api.ErrArg {
			t.Errorf("New(%d) = %v, %d, want nil, ErrArg", limit, x, e)
		}
	}
	for _, limit := range []int{1, 2, 3, 65535, 65536} {
		p := newPair(t, limit)
		p.next()
		p.when(0)
		p.drop(0)
		p.due(most)
	}
}

func TestP4_1HoldsAsManyAsItsLimit(t *testing.T) {
	for _, limit := range []int{1, 2, 3, 4, 5, 100, 65535, 65536} {
		x := made(t, limit)
		for i := range limit {
			if e := x.Set(i, int64(limit-i)); e != api.OK {
				t.Fatalf("limit %d: Set number %d: %d", limit, i, e)
			}
		}
		if e := x.Set(limit, 0); e != api.ErrFull || x.Len() != limit {
			t.Errorf("limit %d: one too many: %d, want ErrFull; Len %d", limit, e, x.Len())
		}
		checkWhole(t, x)
		if id, at, e := x.Next(); id != limit-1 || at != 1 || e != api.OK {
			t.Errorf("limit %d: Next() = %d, %d, %d", limit, id, at, e)
		}
	}
}

func TestP4_1TwoShareNothing(t *testing.T) {
	x, y := newPair(t, 2), newPair(t, 3)
	x.set(1, 5)
	y.next()
	y.when(1)
	y.drop(1)
	y.set(1, 9)
	y.set(2, 1)
	x.set(2, 7)
	x.set(3, 0) // full, though y is not
	y.set(3, 0)
	y.set(4, 0)
	x.due(6)
	y.next()
	y.due(most)
	x.next()
	x.when(2)
}

func TestP4_2Set(t *testing.T) {
	p := newPair(t, 3)
	p.set(7, 20)
	p.set(5, 10)
	p.set(9, 10)
	p.set(1, 1) // full
	p.when(1)
	p.next()
	p.set(7, 10)
	p.next()
	p.due(9)
	p.drop(5)
	p.drop(5)
	p.due(10)
	p.next()
}

func TestP4_2MovesInAFullOne(t *testing.T) {
	for limit := 1; limit <= 9; limit++ {
		for id := range limit {
			for _, at := range []int64{least, -1, 0, 1, 5, 10, 15, 35, 40, 41, 85, 1000, most} {
				p := newPair(t, limit)
				for i := range limit {
					p.set(i, int64(10*i))
				}
				p.set(limit, at)
				p.set(-1, at)
				p.set(id, at)
				p.set(id, at)
				p.set(limit, at)
				p.next()
				p.due(most)
			}
		}
	}
}

func TestP4_2FullTwice(t *testing.T) {
	p := newPair(t, 2)
	p.set(1, 1)
	p.set(2, 2)
	p.set(3, 3)
	p.drop(1)
	p.set(3, 3)
	p.set(1, 1)
	p.due(2)
	p.set(1, 1)
	p.set(2, 2)
	p.due(most)
}

func TestP4_3Drop(t *testing.T) {
	for held := 1; held <= 20; held++ {
		for id := range held {
			p := newPair(t, held+1)
			for i := range held {
				p.set(i, int64(i*7%held))
			}
			p.drop(held)
			p.drop(-1)
			p.drop(id)
			p.drop(id)
			p.when(id)
			p.due(most)
		}
	}
}

// In this heap the last one belongs above the middle one that goes: its slot is filled by rising.
func TestP4_3DropThatRises(t *testing.T) {
	p := newPair(t, 7)
	for id, at := range []int64{1, 10, 2, 11, 12, 3, 4} {
		p.set(id, at)
	}
	p.drop(3)
	p.next()
	p.due(4)
	p.due(most)
}

func TestP4_4When(t *testing.T) {
	p := newPair(t, 5)
	ids := []int{least, -1, 0, 1, most}
	for i, at := range []int64{most, 0, least, -1, 1} {
		p.when(ids[i])
		p.set(ids[i], at)
		p.when(ids[i])
		p.when(ids[i])
	}
	p.when(2)
	p.when(-2)
	p.next()
	p.due(least)
	p.when(0)
	p.due(-1)
	p.when(1)
}

func TestP4_5Next(t *testing.T) {
	p := newPair(t, 4)
	p.next()
	p.set(0, 0) // its id and time are those that stand beside ErrNone
	p.next()
	p.next()
	p.set(-1, 0)
	p.next()
	p.set(3, -4)
	p.next()
	p.set(least, -4)
	p.next()
	p.next()
	p.drop(least)
	p.next()
	p.due(most)
	p.next()
}

func TestP4_5NextChangesNothing(t *testing.T) {
	x := made(t, 10)
	for i := range 10 {
		x.Set(i, int64(i*3%10))
	}
	before := slices.Clone(x.heap)
	for range 20 {
		if id, at, e := x.Next(); id != 0 || at != 0 || e != api.OK || x.Len() != 10 || !slices.Equal(x.heap, before) {
			t.Fatalf("Next() = %d, %d, %d; it changed %v to %v", id, at, e, before, x.heap)
		}
	}
}

func TestP4_6Due(t *testing.T) {
	p := newPair(t, 8)
	p.due(least)
	p.due(most)
	for _, d := range []deadline{{4, 3}, {2, 3}, {-6, 3}, {9, 2}, {1, 4}, {8, most}, {7, least}} {
		p.set(d.id, d.at)
	}
	p.due(least)
	p.due(least)
	p.due(1)
	p.due(2)
	p.due(2)
	p.due(3)
	p.due(0)
	p.due(most - 1)
	p.due(most)
	p.due(most)
}

func TestP4_6EqualTimes(t *testing.T) {
	for _, at := range []int64{least, -1, 0, 1, most} {
		x := made(t, 100)
		for i := range 100 {
			x.Set(i*37%100-50, at)
		}
		if at > least {
			if ids := x.Due(at - 1); len(ids) != 0 {
				t.Errorf("Due(%d) = %v, want none", at-1, ids)
			}
		}
		ids := x.Due(at)
		for i, id := range ids {
			if id != i-50 {
				t.Fatalf("Due(%d)[%d] = %d, want %d", at, i, id, i-50)
			}
		}
		if len(ids) != 100 || x.Len() != 0 {
			t.Errorf("Due(%d) took %d of 100, and left %d", at, len(ids), x.Len())
		}
	}
}

func TestP4_6GreatSet(t *testing.T) {
	x := made(t, api.MaxTimers)
	const turn = 40503 // odd: each id once
	for i := range api.MaxTimers {
		id := i * turn % api.MaxTimers
		x.Set(id, int64(id/3))
	}
	checkWhole(t, x)
	half := int64(api.MaxTimers / 6)
	first := x.Due(half)
	checkWhole(t, x)
	for i, id := range append(first, x.Due(most)...) {
		if id != i {
			t.Fatalf("id %d at place %d", id, i)
		}
	}
	if len(first) != 3*int(half+1) || x.Len() != 0 {
		t.Errorf("%d were due first, %d are left", len(first), x.Len())
	}
}

func TestP4_7Len(t *testing.T) {
	x := made(t, 3)
	for i, step := range []struct {
		act  func()
		want int
	}{
		{func() {}, 0},
		{func() { x.Set(1, 1) }, 1},
		{func() { x.Set(1, 2) }, 1},
		{func() { x.Set(2, 1) }, 2},
		{func() { x.Set(3, 9) }, 3},
		{func() { x.Set(4, 0) }, 3},
		{func() { x.Next() }, 3},
		{func() { x.When(2) }, 3},
		{func() { x.Drop(4) }, 3},
		{func() { x.Drop(2) }, 2},
		{func() { x.Due(1) }, 2},
		{func() { x.Due(2) }, 1},
		{func() { x.Due(9) }, 0},
	} {
		step.act()
		if x.Len() != step.want {
			t.Errorf("step %d: Len() = %d, want %d", i, x.Len(), step.want)
		}
	}
}

func TestP4_9IdsComeAgain(t *testing.T) {
	p := newPair(t, 2)
	for range 3 {
		p.set(7, 5)
		p.set(8, 5)
		p.drop(7)
		p.when(7)
		p.set(7, 3)
		p.due(4)
		p.when(7)
		p.set(7, 6)
		p.next()
		p.due(6)
	}
	if len(p.real.places) != 0 || len(p.real.heap) != 0 {
		t.Errorf("%d places and %d deadlines are left", len(p.real.places), len(p.real.heap))
	}
}

// A set that many ids have gone through keeps room for those alone that were held at one time.
func TestP4_9LeavesNothingBehind(t *testing.T) {
	x := made(t, 4)
	for i := range 100000 {
		x.Set(i, int64(i))
		x.Set(-i-1, int64(i))
		x.Drop(-i - 1)
		if i%2 == 1 {
			x.Due(int64(i))
		}
	}
	checkWhole(t, x)
	if x.Len() != 0 || cap(x.heap) > 8 {
		t.Errorf("%d are held, with room for %d", x.Len(), cap(x.heap))
	}
}

// Each call touches no more slots than lie on one way from the heap's top to its foot.
func TestP4_9FewSteps(t *testing.T) {
	x := made(t, 5000)
	roll := dice()
	for range 5000 {
		x.Set(roll.Intn(1<<40), roll.Int63n(1000))
	}
	for range 2000 {
		id := x.heap[roll.Intn(x.Len())].id
		for i, call := range []func(){
			func() { x.Set(id, -roll.Int63()) },
			func() { x.Set(id, 1000+roll.Int63()) },
			func() { x.Drop(id) },
			func() {
				_, at, _ := x.Next()
				x.Set(id, at-1)
				x.Due(at - 1)
			},
		} {
			before := slices.Clone(x.heap)
			call()
			changed := 0
			for place, d := range x.heap {
				if place >= len(before) || d != before[place] {
					changed++
				}
			}
			if most := 2 * (bits.Len(uint(len(before))) + 1); changed > most {
				t.Fatalf("call %d changed %d slots of %d, more than %d", i, changed, len(before), most)
			}
			x.Set(id, 500)
		}
	}
	checkWhole(t, x)
}

// Whatever is called in whatever order, the answers are the model's.
func TestP4_9AnyCalls(t *testing.T) {
	roll := dice()
	odd := []int64{least, least + 1, -1, 0, 1, most - 1, most}
	for round := range 400 {
		p := newPair(t, 1+roll.Intn(30))
		ids, times := 1+roll.Intn(40), 1+roll.Int63n(30)
		someTime := func() int64 {
			if round%4 == 0 {
				return odd[roll.Intn(len(odd))]
			}
			return roll.Int63n(times) - times/2
		}
		someID := func() int {
			if round%4 == 1 {
				return int(odd[roll.Intn(len(odd))])
			}
			return roll.Intn(ids) - ids/2
		}
		for range 300 {
			switch roll.Intn(12) {
			case 0, 1, 2, 3, 4, 5, 6:
				p.set(someID(), someTime())
			case 7, 8:
				p.drop(someID())
			case 9:
				p.when(someID())
			case 10:
				p.next()
			default:
				p.due(someTime() - times/4)
			}
		}
		p.due(most)
	}
}

// All heaps of up to six deadlines, in all orders in which they can come, with one of them moved.
func TestP4_9AllSmallOnes(t *testing.T) {
	for size := 1; size <= 6; size++ {
		eachOrder(size, func(order []int) {
			for id := range size {
				for at := 0; at <= 2*size; at += 3 {
					p := newPair(t, size)
					for _, i := range order {
						p.set(i, int64(2*(i/2)))
					}
					p.set(id, int64(at))
					p.drop((id + 1) % size)
					p.due(int64(at))
					p.due(most)
				}
			}
		})
	}
}

// eachOrder calls with each order of the numbers 0 to size - 1.
func eachOrder(size int, call func(order []int)) {
	var lay func(order []int)
	lay = func(order []int) {
		if len(order) == size {
			call(order)
			return
		}
		for i := range size {
			if !slices.Contains(order, i) {
				lay(append(slices.Clone(order), i))
			}
		}
	}
	lay(nil)
}

func TestP0_2RefusedCallsChangeNothing(t *testing.T) {
	x := made(t, 5)
	for i := range 5 {
		x.Set(i, int64(5-i))
	}
	before := slices.Clone(x.heap)
	for i, call := range []func() api.Errno{
		func() api.Errno { return x.Set(5, least) },
		func() api.Errno { return x.Drop(-1) },
		func() api.Errno { _, e := x.When(9); return e },
	} {
		if e := call(); e == api.OK || !slices.Equal(x.heap, before) || len(x.places) != 5 {
			t.Errorf("call %d: %d; it changed %v to %v", i, e, before, x.heap)
		}
		checkWhole(t, x)
	}
}

// Whoever writes into what Due answered changes neither what is kept nor another answer.
func TestP0_3NewMemory(t *testing.T) {
	x := made(t, 40)
	for i := range 40 {
		x.Set(i, int64(i))
	}
	first := x.Due(4)
	second := x.Due(9)
	kept := slices.Clone(second)
	for i := range first[:cap(first)] {
		first[:cap(first)][i] = -77
	}
	checkWhole(t, x)
	if !slices.Equal(second, kept) {
		t.Errorf("the second answer became %v", second)
	}
	if third := x.Due(most); len(third) != 30 || third[0] != 10 || third[29] != 39 {
		t.Errorf("the third answer is %v", third)
	}
}

// Two objects that are told the same answer the same, whatever the order in which their maps would be gone through.
func TestP0_5SameCallsSameAnswers(t *testing.T) {
	play := func() string {
		roll := dice()
		x := made(t, 50)
		var told []any
		for range 2000 {
			told = append(told, x.Set(roll.Intn(80), roll.Int63n(9)), x.Drop(roll.Intn(80)), x.Len())
			if roll.Intn(10) == 0 {
				told = append(told, x.Due(roll.Int63n(9)))
			}
			id, at, e := x.Next()
			told = append(told, id, at, e)
		}
		return fmt.Sprint(told)
	}
	first := play()
	for range 5 {
		if play() != first {
			t.Fatal("the same calls were answered otherwise")
		}
	}
}

package under

import (
	"slices"
	"testing"

	"weft/api"
)

// The chapter's example, line by line, without the model.
func TestP18_2Example(t *testing.T) {
	one, two := sent(quad(192, 0, 2, 1), 1), sent(quad(192, 0, 2, 2), 2, 3)
	spoilt, three, four := sent(quad(192, 0, 2, 1), 0xfe), sent(quad(192, 0, 2, 3), 4), sent(quad(192, 0, 2, 4), 5)
	n, err := New(3)
	if n == nil || err != api.OK {
		t.Fatalf("P18.1: New(3) = %v, %d", n, err)
	}
	then := func(step string, err, want api.Errno, list ...api.Sent) {
		t.Helper()
		if err != want {
			t.Errorf("P18: %s = %d, want %d", step, err, want)
		}
		if got := packetsOf(n.List()); !slices.Equal(got, packetsOf(list)) {
			t.Errorf("P18: behind %s in flight are %s, want %s", step, brief(got), brief(packetsOf(list)))
		}
	}
	put := func(want int, list ...api.Sent) api.Errno {
		t.Helper()
		k, err := n.Put(list...)
		if k != want {
			t.Errorf("P18.2: %d joined, want %d", k, want)
		}
		return err
	}
	take := func(i int, want api.Sent) api.Errno {
		t.Helper()
		s, err := n.Take(i)
		if packetOf(s) != packetOf(want) {
			t.Errorf("P18.3: Take(%d) = %v, want %v", i, s, want)
		}
		return err
	}
	then("Put a, b", put(2, one, two), api.OK, one, two)
	then("Copy 0", n.Copy(0), api.OK, one, two, one)
	then("Copy 1", n.Copy(1), api.ErrFull, one, two, one)
	then("Put c", put(0, three), api.ErrFull, one, two, one)
	then("Spoil 2, 0, ff", n.Spoil(2, 0, 0xff), api.OK, one, two, spoilt)
	then("Spoil 0, 1, 01", n.Spoil(0, 1, 1), api.ErrArg, one, two, spoilt)
	then("Spoil 3, 0, 0", n.Spoil(3, 0, 0), api.ErrNone, one, two, spoilt)
	then("Take 0", take(0, one), api.OK, two, spoilt)
	then("Put c, d", put(1, three, four), api.ErrFull, two, spoilt, three)
	then("Lose -1", n.Lose(-1), api.ErrNone, two, spoilt, three)
	then("Lose 0", n.Lose(0), api.OK, spoilt, three)
	then("Take 2", take(2, api.Sent{}), api.ErrNone, spoilt, three)
	for _, limit := range []int{0, 4097} {
		if n, err := New(limit); n != nil || err != api.ErrArg {
			t.Errorf("P18.1: New(%d) = %v, %d", limit, n, err)
		}
	}
}

package flow

import (
	"testing"

	"weft/api"
)

func TestP21_2Limits(t *testing.T) {
	for _, limit := range []int{least, -65536, -1, 0, 65537, 65538, 1 << 17, 1 << 32, 1<<32 + 1, most} {
		if x, err := New(limit); x != nil || err != api.ErrArg {
			t.Errorf("P21.2: New(%d) = %v, %d", limit, x, err)
		}
	}
	for _, limit := range []int{1, 2, 3, 255, 256, 512, 65535, 65536} {
		b := begun(t, limit).check()
		if list := b.list(); len(list) != 0 {
			t.Errorf("P21.2: New(%d) holds %v", limit, list)
		}
		if list := b.due(most); len(list) != 0 {
			t.Errorf("P21.2: New(%d) has due %v", limit, list)
		}
	}
}

// As many flows as the limit says, and no more.
func TestP21_4Limit(t *testing.T) {
	for _, limit := range []int{1, 2, 3, 17, 64} {
		b := begun(t, limit)
		for i := range limit {
			b.opens(int64(i), tup(hostA, hostB, 17, uint16(i), 53))
		}
		u := tup(hostC, hostB, 17, 1, 53)
		for range 2 {
			if err := b.open(u, turned(u), first(u), 0); err != api.ErrFull {
				t.Errorf("P21.4: Open of one above %d = %d", limit, err)
			}
		}
		b.check()
		if len(b.due(30)) != 1 {
			t.Error("P21.7: the first flow was not due")
		}
		b.opens(0, u)
		if err := b.open(tup(hostD, hostB, 17, 1, 53), turned(u), of(tup(hostD, hostB, 17, 1, 53), 0), 0); err != api.ErrDup {
			t.Errorf("P21.4: Open of a held back in a full table = %d", err)
		}
		b.check()
	}
}

// The greatest table, filled. (By the table alone: the model's plain list would be slow.)
func TestP21_2Greatest(t *testing.T) {
	x, err := New(65536)
	if err != api.OK {
		t.Fatalf("P21.2: %d", err)
	}
	for i := range 65536 {
		u := tup(hostA, hostB, 17, uint16(i), 53)
		if err := x.Open(u, turned(u), of(u, 0), int64(i%100)); err != api.OK {
			t.Fatalf("P21.4: Open of flow %d = %d", i, err)
		}
	}
	u := tup(hostC, hostB, 17, 1, 53)
	if err := x.Open(u, turned(u), of(u, 0), 0); err != api.ErrFull {
		t.Errorf("P21.4: Open of flow 65536 = %d", err)
	}
	list := x.List()
	for i, f := range list {
		if f.There != tup(hostA, hostB, 17, uint16(i), 53) || f.Until != int64(i%100+30) {
			t.Fatalf("P21.7: flow %d is %v", i, f)
		}
	}
	if len(list) != 65536 || len(x.Due(29)) != 0 || len(x.Due(30)) != 656 || len(x.Due(128)) != 64880-655 || len(x.List()) != 655 {
		t.Errorf("P21.7: of %d flows %d are left", len(list), len(x.List()))
	}
	if err := x.Open(u, turned(u), of(u, 0), 0); err != api.OK {
		t.Errorf("P21.4: Open where there is room again = %d", err)
	}
}

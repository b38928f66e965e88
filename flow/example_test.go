package flow

import (
	"slices"
	"testing"

	"weft/api"
)

// The chapter's examples, one by one, without the model.
func TestP21_1Examples(t *testing.T) {
	later, short, other := udp(hostA, hostB, 5, 53), udp(hostA, hostB, 5, 53), udp(hostA, hostB, 5, 53)
	later.Head.Off = 8
	short.Body = short.Body[:7]
	other.Head.Proto = 47
	for _, row := range []struct {
		p    api.Packet
		want api.Tuple
		err  api.Errno
	}{
		{udp(hostA, hostB, 5, 53), tup(hostA, hostB, 17, 5, 53), api.OK},
		{later, api.Tuple{}, api.ErrPiece},
		{ping(hostA, hostB, 7), tup(hostA, hostB, 1, 7, 7), api.OK},
		{short, api.Tuple{}, api.ErrShort},
		{other, api.Tuple{}, api.ErrTuple},
		{control(hostA, hostB, 3, 1, 7), api.Tuple{}, api.ErrTuple},
	} {
		if u, err := Of(row.p); u != row.want || err != row.err {
			t.Errorf("P21.1: Of(%v) = %v, %d, want %v, %d", row.p, u, err, row.want, row.err)
		}
	}
}

// alone is a table without a model.
func alone(t *testing.T) (x *Table, is func(f api.Flow, err api.Errno, want api.Flow), looks func(p api.Packet, want api.Track)) {
	x, err := New(1)
	if err != api.OK {
		t.Fatalf("P21.2: New(1) = %d", err)
	}
	is = func(f api.Flow, err api.Errno, want api.Flow) {
		t.Helper()
		if f != want || err != api.OK {
			t.Errorf("P21.5: Move = %v, %d, want %v", f, err, want)
		}
	}
	looks = func(p api.Packet, want api.Track) {
		t.Helper()
		if got := x.Look(p); got != want {
			t.Errorf("P21.3: Look(%v) = %v, want %v", p, got, want)
		}
	}
	return x, is, looks
}

func TestP21_5ExampleDatagrams(t *testing.T) {
	x, is, looks := alone(t)
	opens := func(want api.Errno, u api.Tuple, now int64) {
		t.Helper()
		if err := x.Open(u, Back(u), of(u, 0), now); err != want {
			t.Errorf("P21.4: Open(%v) = %d, want %d", u, err, want)
		}
	}
	lists := func(got []api.Flow, want ...api.Flow) {
		t.Helper()
		if !slices.Equal(got, want) {
			t.Errorf("P21.7: %v, want %v", got, want)
		}
	}
	there, back := udp(hostA, hostB, 5, 53), udp(hostB, hostA, 53, 5)
	u := tup(hostA, hostB, 17, 5, 53)
	f := api.Flow{There: u, Back: tup(hostB, hostA, 17, 53, 5), State: api.FThere, Until: 130}
	looks(there, api.Track{Kind: api.TNew})
	opens(api.OK, u, 100)
	lists(x.List(), f)
	opens(api.ErrDup, u, 100)
	opens(api.ErrFull, tup(hostA, hostB, 17, 6, 53), 100)
	looks(back, api.Track{Kind: api.TBack, Flow: f})
	looks(about(t, there, 3, 3, hostB), api.Track{Kind: api.TAbout, Flow: f})
	looks(about(t, back, 11, 0, hostC), api.Track{Kind: api.TAbout, Flow: f, Theirs: true})
	f.State, f.Until = api.FBoth, 300
	got, err := x.Move(back, 120)
	is(got, err, f)
	f.Until = 270
	got, err = x.Move(there, 90)
	is(got, err, f)
	lists(x.Due(269))
	lists(x.Due(270), f)
	looks(back, api.Track{Kind: api.TNew})
}

func TestP21_5ExampleSegments(t *testing.T) {
	x, is, looks := alone(t)
	f := api.Flow{There: tup(hostA, hostB, 6, 5, 80), Back: tup(hostD, hostC, 6, 80, 7), State: api.FSyn, Until: 120}
	if err := x.Open(f.There, f.Back, of(f.There, 0x02), 0); err != api.OK || !slices.Equal(x.List(), []api.Flow{f}) {
		t.Errorf("P21.4: Open = %d, and held are %v", err, x.List())
	}
	looks(tcp(hostB, hostA, 80, 5, 0x12), api.Track{Kind: api.TNew})
	const fin, syn, rst, ack = 1, 2, 4, 16
	for now, step := range []struct {
		tuple api.Tuple
		flags byte
		state int
		until int64
	}{
		{f.Back, syn | ack, api.FSynAck, 61},
		{f.There, ack, api.FOpen, 432002},
		{f.There, fin | ack, api.FFin, 123},
		{f.Back, ack, api.FFin, 124},
		{f.Back, fin | ack, api.FLast, 65},
		{f.There, ack, api.FLast, 66},
		{f.Back, syn | ack, api.FLast, 66},
		{f.There, syn, api.FSyn, 128},
		{f.Back, rst, api.FClosed, 19},
	} {
		f.State, f.Until = step.state, step.until
		got, err := x.Move(of(step.tuple, step.flags), int64(now+1))
		is(got, err, f)
	}
	x, _, _ = alone(t)
	u := tup(hostA, hostB, 6, 6, 80)
	if err := x.Open(u, Back(u), of(u, ack), 0); err != api.ErrTuple {
		t.Errorf("P21.4: Open with an ACK = %d", err)
	}
}

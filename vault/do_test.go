package vault

import (
	"bytes"
	"math"
	"strconv"
	"testing"

	"weft/api"
)

// The record of each command is what lies at the disk's end.
func TestP13_2RecordOfEach(t *testing.T) {
	b := begun(t, config(), api.Disk{})
	size := 16
	for _, row := range []struct {
		cmd api.Cmd
		rec string
	}{
		{acquire(0, x, nth(99)), "01 00 0a000100 18 c0000201 020000000001"},
		{acquire(1, y, nth(2)), "01 01 0a000200 18 fffefdfc ff807f0100fe"},
		{acquire(3, x, nth(1)), "01 03 0a000900 18 c0000201 020000000001"},
		{acquire(0, y, nth(2)), "01 00 0a000100 18 fffefdfc ff807f0100fe"},
		{acquire(0, y, api.Prefix{Addr: 0xffffffff, Len: -1}), "01 00 0a000100 18 fffefdfc ff807f0100fe"},
		{renew(3, nth(9)), "02 03 0a000900 18"},
		{renew(0, nth(1)), "02 00 0a000100 18"},
		{release(3), "03 03"},
		{release(0), "03 00"},
		{tick(0), "04 0000000000000000"},
		{tick(1), "04 0000000000000001"},
		{tick(0x0102030405060708), "04 0102030405060708"},
		{tick(math.MaxInt64), "04 7fffffffffffffff"},
		// What a kind does not name is not written.
		{api.Cmd{Kind: api.Tick, Host: 9, Subnet: nth(3), Pub: 7, MAC: y.mac}, "04 0000000000000000"},
		{acquire(2, x, nth(1)), "01 02 0a000100 18 c0000201 020000000001"},
		{api.Cmd{Kind: api.Release, Host: 2, Subnet: nth(3), Pub: 7, MAC: y.mac, N: -8}, "03 02"},
	} {
		rec := unhex(row.rec)
		b.all(row.cmd)
		size += 12 + len(rec)
		if d := b.v.Disk(); len(d.A) != size || !bytes.Equal(d.A[size-len(rec):], rec) || len(d.B) != 0 {
			t.Fatalf("P13.2: Do(%+v): %d bytes, want %d: %x", row.cmd, len(d.A), size, d.A)
		}
		b.again()
	}
}

// A refused command is answered by the store, with its revision and tick, and nothing of it is seen on the disk.
func TestP13_2Refused(t *testing.T) {
	b := begun(t, config(), api.Disk{})
	for _, filled := range []int{0, 15, 16, 17} {
		for len(b.m.done) < filled {
			b.all(acquire(len(b.m.done)%2, x, api.Prefix{}))
		}
		was := b.v.Disk()
		for _, row := range []struct {
			cmd  api.Cmd
			want api.Errno
		}{
			{api.Cmd{}, api.ErrCmd}, {api.Cmd{Kind: 5}, api.ErrCmd}, {api.Cmd{Kind: -1}, api.ErrCmd}, {api.Cmd{Kind: 257}, api.ErrCmd}, {api.Cmd{Kind: math.MinInt}, api.ErrCmd},
			{acquire(-1, x, nth(1)), api.ErrArg}, {acquire(4, x, nth(1)), api.ErrArg}, {acquire(256, x, nth(1)), api.ErrArg}, {acquire(math.MaxInt, x, nth(1)), api.ErrArg},
			{renew(-1, nth(1)), api.ErrArg}, {renew(4, nth(1)), api.ErrArg}, {release(-1), api.ErrArg}, {release(256), api.ErrArg},
			{tick(-1), api.ErrArg}, {tick(math.MinInt64), api.ErrArg},
			{renew(3, nth(9)), api.ErrLease}, {renew(0, nth(7)), api.ErrLease}, {release(3), api.ErrLease},
		} {
			a := b.do(row.cmd)
			s, _ := b.v.Snapshot()
			if want := (api.Answer{Err: row.want, Rev: s.Rev, Now: s.Now}); a != want {
				t.Fatalf("P13.2: Do(%+v) = %+v, want %+v", row.cmd, a, want)
			}
		}
		if filled > 0 {
			if a := b.do(acquire(2, x, nth(1))); a.Err != api.ErrFull || a.Rev != 2 {
				t.Fatalf("P13.2: a third lease: %+v", a)
			}
		}
		if d := b.v.Disk(); !sameDisk(d, was) {
			t.Fatalf("P13.2: refused commands wrote %x | %x", d.A, d.B)
		}
		b.again()
	}
}

// The answer is the store's, of each kind.
func TestP13_2Answers(t *testing.T) {
	b := begun(t, config(), api.Disk{})
	for _, row := range []struct {
		cmd  api.Cmd
		want api.Answer
	}{
		{acquire(0, x, nth(2)), api.Answer{Lease: held(0, x, nth(2), 5, 1), Rev: 1}},
		{tick(3), api.Answer{Rev: 1, Now: 3}},
		{acquire(0, y, nth(1)), api.Answer{Lease: held(0, y, nth(2), 8, 2), Rev: 2, Now: 3}},
		{renew(0, nth(2)), api.Answer{Lease: held(0, y, nth(2), 8, 2), Rev: 2, Now: 3}},
		{acquire(1, x, nth(2)), api.Answer{Lease: held(1, x, nth(1), 8, 3), Rev: 3, Now: 3}},
		{release(0), api.Answer{Lease: held(0, y, nth(2), 8, 2), Rev: 4, Now: 3}},
		{release(0), api.Answer{Err: api.ErrLease, Rev: 4, Now: 3}},
		{tick(5), api.Answer{Rev: 5, Now: 8}},
		{tick(math.MaxInt64), api.Answer{Rev: 5, Now: api.Never}},
	} {
		if a := b.do(row.cmd); a != row.want {
			t.Fatalf("P13.2: Do(%+v) = %+v, want %+v", row.cmd, a, row.want)
		}
	}
}

// inLog tells whether an Image begins a disk's log, and how many records of commands it has.
func inLog(d api.Disk) (image bool, commands int) {
	recs := records(d)
	n := behind(recs)
	return n < len(recs), n
}

// The sixteenth command is appended, the seventeenth writes the log anew, and so on for good.
func TestP13_2Anew(t *testing.T) {
	b := begun(t, config(), api.Disk{})
	b.all(acquire(1, x, api.Prefix{}))
	for i := 2; i <= 120; i++ {
		b.all(tick(int64(i % 2))).all(renew(1, nth(1)))
		n := 2*i - 1 // so many commands were done
		image, commands := inLog(b.v.Disk())
		if n <= 16 {
			if image || commands != n {
				t.Fatalf("P13.2: behind %d commands: %v, %d", n, image, commands)
			}
		} else if !image || commands != (n-17)%17 {
			t.Fatalf("P13.2: behind %d commands: %v, %d", n, image, commands)
		}
		b.again()
	}
}

// The other area stays as it was, and holds the head and one frame when it is written.
func TestP13_2AnewAreas(t *testing.T) {
	b := begun(t, config(), api.Disk{})
	b.times(16, tick(1))
	old := b.v.Disk()
	if len(old.A) != 16+16*21 || len(old.B) != 0 {
		t.Fatalf("P13.2: %d and %d bytes", len(old.A), len(old.B))
	}
	b.all(tick(1))
	d := b.v.Disk()
	if !bytes.Equal(d.A, old.A) || len(d.B) != 16+12+21 || !bytes.Equal(d.B[28:], unhex("05 0000000000000000 0000000000000011 0000 0000")) {
		t.Fatalf("P13.2: %x | %x", d.A, d.B)
	}
	b.times(16, tick(1))
	if e := b.v.Disk(); !bytes.Equal(e.A, old.A) || len(e.B) != 16+12+21+16*21 {
		t.Fatalf("P13.2: %x | %x", e.A, e.B)
	}
	b.all(acquire(3, x, nth(1)))
	e := b.v.Disk()
	lease := "03 0a000900 18 c0000201 020000000001 0000000000000026 0000000000000001"
	want := unhex("05 0000000000000001 0000000000000021 0001" + lease + "0001 0000000000000001 01" + lease)
	if len(e.B) != 16+12+21+16*21 || len(e.A) != 28+len(want) || !bytes.Equal(e.A[28:], want) {
		t.Fatalf("P13.2: %x | %x", e.A, e.B)
	}
	b.all(release(3)).times(15, tick(0)).all(tick(2))
	want = unhex("05 0000000000000002 0000000000000023 0000 0002 0000000000000001 01" + lease + "0000000000000002 02" + lease)
	if e := b.v.Disk(); len(e.B) != 28+len(want) || !bytes.Equal(e.B[28:], want) {
		t.Fatalf("P13.2: %x | %x", e.A, e.B)
	}
}

// The records that Open found are counted, whether or not the log's base has them.
func TestP13_2CountsWhatWasFound(t *testing.T) {
	for _, n := range []int{0, 1, 2, 14, 15, 16, 17, 18, 33, 200} {
		for _, image := range []bool{false, true} {
			var recs [][]byte
			if image {
				recs = append(recs, imageOf(full(config(), 1).Image()))
			}
			for range n {
				recs = append(recs, plain(tick(0)))
			}
			for at := 0; at <= len(recs); at += 1 + len(recs)/5 {
				name := strconv.Itoa(n) + " records, an Image: " + strconv.FormatBool(image) + ", in the base: " + strconv.Itoa(at)
				b := begun(t, config(), split(at, recs...))
				b.do(renew(0, nth(5)))
				b.do(release(2))
				for left := 16 - n; left > 0; left-- {
					b.all(tick(0))
					b.do(release(3))
				}
				if i, k := inLog(b.v.Disk()); i != image || k != max(n, 16) {
					t.Fatalf("P13.2: %s: %v, %d", name, i, k)
				}
				b.all(acquire(3, x, nth(9)))
				if i, k := inLog(b.v.Disk()); !i || k != 0 {
					t.Fatalf("P13.2: %s: %v, %d behind the next", name, i, k)
				}
				b.again().times(16, tick(0))
				b.all(tick(1)).again()
			}
		}
	}
}

// Opening it again in between makes no difference.
func TestP13_2CountsAcrossOpenings(t *testing.T) {
	for every := 1; every <= 18; every++ {
		b := begun(t, config(), api.Disk{})
		for i := range 60 {
			if i%every == every-1 {
				b = b.again()
			}
			b.all(acquire(i%2, x, api.Prefix{}))
			want := i + 1
			if i >= 16 {
				want = (i - 16) % 17
			}
			if image, k := inLog(b.v.Disk()); image != (i >= 16) || k != want {
				t.Fatalf("P13.2: opened at every %d: behind %d commands: %v, %d", every, i+1, image, k)
			}
		}
	}
}

// The Image of as much as a store may keep is written and read.
func TestP13_2GreatImage(t *testing.T) {
	c := wide(64, 256)
	v, err := Open(c, api.Disk{})
	if err != api.OK {
		t.Fatal(err)
	}
	s := full(c, 0)
	for i := range 700 {
		cmd := acquire(i%64, who{pub: api.Addr(i), mac: api.MAC{5: byte(i)}}, api.Prefix{})
		if a, want := v.Do(cmd), s.Apply(cmd); a != want || a.Err != api.OK {
			t.Fatalf("P13.2: Do(%+v) = %+v, want %+v", cmd, a, want)
		}
		if i%50 == 0 {
			tells(t, "P13.2", v, s)
			again, err := Open(c, v.Disk())
			if err != api.OK {
				t.Fatalf("P13.6: %d", err)
			}
			tells(t, "P13.6", again, s)
		}
	}
	d := v.Disk()
	if whole := 16 + 12 + 21 + 64*32 + 256*41; len(d.A) < whole || len(d.B) < whole {
		t.Errorf("P13.2: %d and %d bytes", len(d.A), len(d.B))
	}
}

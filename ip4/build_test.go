package ip4

import (
	"bytes"
	"math"
	"testing"

	"weft/api"
)

func checkBuild(t *testing.T, p api.Packet, want []byte, wantErr api.Errno) {
	t.Helper()
	if b, err := Build(p); err != wantErr || !bytes.Equal(b, want) {
		t.Errorf("P3.5: Build(%.100v) = %.100x, %d, want %.100x, %d", p, b, err, want, wantErr)
	}
}

// piece is a packet of which just offset, flag, options and the body's length tell.
func piece(off int, more bool, body int, opts ...byte) api.Packet {
	return api.Packet{Head: api.Head{Off: off, MF: more, Opts: opts}, Body: make([]byte, body)}
}

func TestP3_5Build(t *testing.T) {
	checkBuild(t, plainPacket(), unhex(plainBytes), api.OK)
	checkBuild(t, optionsPacket(), unhex(optionsBytes), api.OK)
	checkBuild(t, api.Packet{}, unhex(zeroBytes), api.OK)
	checkBuild(t, api.Packet{Head: api.Head{Opts: []byte{}}, Body: []byte{}}, unhex(zeroBytes), api.OK)
	roll := dice()
	for range 5000 {
		p := somePacket(roll)
		checkBuild(t, p, modelBuild(p), api.OK)
	}
}

func TestP3_5EachError(t *testing.T) {
	const huge = math.MaxInt
	for _, c := range []struct {
		p    api.Packet
		want api.Errno
	}{
		{piece(0, false, 0, 0x83, 7, 4, 10), api.ErrOpts},
		{piece(0, false, 0, 0, 0, 1, 0), api.ErrOpts},
		{piece(0, false, 0, 1, 1, 1), api.ErrOpts},
		{piece(0, false, 0, 1), api.ErrOpts},
		{piece(0, false, 0, fill(44, 1)...), api.ErrOpts},
		{piece(4, false, 0), api.ErrOff},
		{piece(1, false, 0), api.ErrOff},
		{piece(7, false, 0), api.ErrOff},
		{piece(65527, false, 0), api.ErrOff},
		{piece(65529, false, 0), api.ErrOff},
		{piece(65535, false, 0), api.ErrOff},
		{piece(65536, false, 0), api.ErrOff},
		{piece(-1, false, 0), api.ErrOff},
		{piece(-8, false, 8), api.ErrOff},
		{piece(huge, false, 8), api.ErrOff},
		{piece(huge-7, false, 8), api.ErrOff},
		{piece(-huge-1, false, 8), api.ErrOff},
		{piece(65528, false, 8), api.ErrOff},
		{piece(65528, true, 8), api.ErrOff},
		{piece(8, false, 65528), api.ErrOff},
		{piece(24, false, 65512), api.ErrOff},
		{piece(0, true, 0), api.ErrOff},
		{piece(8, true, 0), api.ErrOff},
		{piece(0, true, 4), api.ErrOff},
		{piece(0, true, 9), api.ErrOff},
		{piece(0, false, 65536), api.ErrOff},
		{piece(0, false, 1<<20), api.ErrOff},
		{piece(0, true, 65528+8), api.ErrOff},
		{piece(0, false, 65516), api.ErrBig},
		{piece(0, false, 65535), api.ErrBig},
		{piece(16, false, 65519), api.ErrBig},
		{piece(0, true, 65520), api.ErrBig},
		{piece(0, true, 65528), api.ErrBig},
		{piece(0, false, 65512, 1, 1, 1, 1), api.ErrBig},
		{piece(0, false, 65476, fill(40, 1)...), api.ErrBig},
	} {
		checkBuild(t, c.p, nil, c.want)
	}
}

func TestP3_5OrderOfErrors(t *testing.T) {
	checkBuild(t, piece(3, false, 65536, 1, 1, 1, 2), nil, api.ErrOpts)
	checkBuild(t, piece(0, true, 0, 1, 1), nil, api.ErrOpts)
	checkBuild(t, piece(0, false, 65520, 0x83, 7, 4, 10), nil, api.ErrOpts)
	checkBuild(t, piece(4, false, 65520), nil, api.ErrOff)
	checkBuild(t, piece(0, true, 65519), nil, api.ErrOff)
	checkBuild(t, piece(24, false, 65519), nil, api.ErrOff)
}

func TestP3_5Edges(t *testing.T) {
	for _, p := range []api.Packet{
		piece(0, false, 65515),
		piece(0, false, 65511, 1, 1, 1, 1),
		piece(0, false, 65475, fill(40, 1)...),
		piece(0, true, 65512),
		piece(16, false, 65515),
		piece(24, false, 65511),
		piece(65528, false, 0),
		piece(65528, false, 7),
		piece(65520, true, 8),
		piece(65520, false, 15),
		piece(8, false, 0),
		{Head: api.Head{DF: true, MF: true, Off: 8, TTL: 0}, Body: make([]byte, 8)},
		{Head: api.Head{TOS: 255, ID: 65535, DF: true, TTL: 255, Proto: 255, Src: 1<<32 - 1, Dst: 1<<32 - 1, Opts: fill(40, 1)}, Body: fill(65475, 255)},
	} {
		checkBuild(t, p, modelBuild(p), api.OK)
		checkThereAndBack(t, p)
	}
}

func checkThereAndBack(t *testing.T, p api.Packet) {
	t.Helper()
	b, err := Build(p)
	if err != api.OK {
		t.Errorf("P3.6: Build(%.100v): %d", p, err)
		return
	}
	for _, behind := range []string{"", "00", "ff", "ffffff", plainBytes} {
		if q, err := Parse(joined(b, unhex(behind))); err != api.OK || !samePacket(p, q) {
			t.Errorf("P3.6: Parse of Build(%.100v) and %s = %.100v, %d", p, behind, q, err)
		}
	}
}

func TestP3_6ThereAndBack(t *testing.T) {
	roll := dice()
	for range 5000 {
		checkThereAndBack(t, somePacket(roll))
	}
}

func TestP3_6BackAndThere(t *testing.T) {
	roll := dice()
	taken := 0
	for range 30000 {
		b := modelBuild(somePacket(roll))
		if roll.Intn(2) == 0 {
			b = spoilt(roll, b)
		}
		p, err := Parse(b)
		if err != api.OK {
			continue
		}
		taken++
		total := 256*int(b[2]) + int(b[3])
		if back, err := Build(p); err != api.OK || !bytes.Equal(back, b[:total]) {
			t.Errorf("P3.6: Build of Parse(%x) = %x, %d", b, back, err)
		}
	}
	if taken < 10000 {
		t.Errorf("the test's own bytes were taken only %d times", taken)
	}
}

func TestP3_7Age(t *testing.T) {
	aged := unhex("45000017 1c464000 3f060692 0a010203 0a020304 010203")
	for _, behind := range []string{"", "ff", "ffff", plainBytes} {
		if b, err := Age(unhex(plainBytes + behind)); err != api.OK || !bytes.Equal(b, aged) {
			t.Errorf("P3.7: Age = %x, %d, want %x", b, err, aged)
		}
	}
	p := optionsPacket()
	for ttl := range 256 {
		p.Head.TTL = byte(ttl)
		b := modelBuild(p)
		got, err := Age(joined(b, []byte{1}))
		if ttl < 2 {
			if err != api.ErrAge || len(got) != 0 {
				t.Errorf("P3.7: Age with TTL %d = %x, %d", ttl, got, err)
			}
			continue
		}
		p.Head.TTL--
		if want := modelBuild(p); err != api.OK || !bytes.Equal(got, want) {
			t.Errorf("P3.7: Age with TTL %d = %x, %d, want %x", ttl, got, err, want)
		}
	}
}

// TestP3_7SumsThatTurn: packets of which the right sum becomes 0, or was 65535 for 0.
func TestP3_7SumsThatTurn(t *testing.T) {
	p := plainPacket()
	b := modelBuild(p)
	for shift := range uint16(3) {
		p.Head.ID = modelSum(joined(b[:4], b[6:10], b[12:20])) + 256 - 256*shift
		before := modelBuild(p)
		p.Head.TTL--
		want := modelBuild(p)
		p.Head.TTL++
		list := [][]byte{before}
		if before[10] == 0 && before[11] == 0 {
			list = append(list, turn(before, false, set16(10, 65535)))
		}
		for _, c := range list {
			if got, err := Age(c); err != api.OK || !bytes.Equal(got, want) {
				t.Errorf("P3.7: Age(%x) = %x, %d, want %x", c, got, err, want)
			}
		}
	}
}

func TestP3_7OrderOfErrors(t *testing.T) {
	for _, ttl := range []byte{0, 1} {
		b := turn(unhex(optionsBytes), true, set8(8, ttl))
		if got, err := Age(b); err != api.ErrAge || len(got) != 0 {
			t.Errorf("P3.7: Age(%x) = %x, %d", b, got, err)
		}
		checkRefused(t, b[:len(b)-1], api.ErrShort, api.OK)
		checkRefused(t, turn(b, false, set8(9, 7)), api.ErrSum, api.ErrSum)
		checkRefused(t, turn(b, true, set8(6, 0xa0)), api.ErrHead, api.ErrHead)
		checkRefused(t, turn(b, true, set8(27, 7)), api.ErrOpts, api.ErrOpts)
		checkRefused(t, turn(b, true, set16(6, 0x3fff)), api.ErrOff, api.ErrOff)
	}
}

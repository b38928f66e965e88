package ip4

import (
	"bytes"
	"slices"
	"testing"

	"weft/api"
)

// modelCopied is P3.8 over the model's options.
func modelCopied(area []byte) ([]byte, api.Errno) {
	options, ok := modelOptions(area)
	if !ok {
		return nil, api.ErrOpts
	}
	options = slices.DeleteFunc(options, func(o []byte) bool { return o[0] < 0x80 })
	b := slices.Concat(options...)
	return append(b, make([]byte, (4-len(b)%4)%4)...), api.OK
}

// checkOptions holds an area against the model in all calls that read one.
func checkOptions(t *testing.T, area []byte) {
	t.Helper()
	want, wantErr := modelCopied(area)
	if got, err := Copied(area); err != wantErr || !bytes.Equal(got, want) {
		t.Errorf("P3.8: Copied(%x) = %x, %d, want %x, %d", area, got, err, want, wantErr)
	}
	if b, err := Build(api.Packet{Head: api.Head{Opts: area}}); err != wantErr || err == api.OK && !bytes.Equal(b[20:], area) {
		t.Errorf("P3.5: Build with the options %x = %x, %d, want %d", area, b, err, wantErr)
	}
	if len(area)%4 == 0 && len(area) <= 40 {
		head := unhex("4500 0000 0001 0000 4006 0000 0a010203 0a020304")
		head[0] += byte(len(area) / 4)
		head[3] = byte(20 + len(area))
		checkRefused(t, resealed(joined(head, area)), wantErr, wantErr)
	}
}

func TestP3_8Copied(t *testing.T) {
	for _, c := range []struct {
		area, want string
		err        api.Errno
	}{
		{"", "", api.OK},
		{"00000000", "", api.OK},
		{"01010101", "", api.OK},
		{"01010100", "", api.OK},
		{"07030401", "", api.OK},
		{"83030400", "83030400", api.OK},
		{"83040400", "83040400", api.OK},
		{"01820201", "82020000", api.OK},
		{"82028002", "82028002", api.OK},
		{"01018002", "80020000", api.OK},
		{"7f02ff02", "ff020000", api.OK},
		{"83037f01 82030000", "83037f82 03000000", api.OK},
		{"8307040a 09090901 07030482 0b010203 04050607 08090000", "8307040a 09090982 0b010203 04050607 08090000", api.OK},
		{"07048383 82020000", "82020000", api.OK}, // a kind inside an option is none
		{"8307040a", "", api.ErrOpts},             // longer than the area
		{"83050000", "", api.ErrOpts},
		{"01010183", "", api.ErrOpts}, // the length is missing
		{"01010107", "", api.ErrOpts},
		{"83000000", "", api.ErrOpts}, // a length below 2
		{"83010101", "", api.ErrOpts},
		{"00000100", "", api.ErrOpts}, // a byte behind the End
		{"00000001", "", api.ErrOpts},
		{"82020083", "", api.ErrOpts},
		{"82020001 00000000", "", api.ErrOpts},
		{"01", "", api.ErrOpts},
		{"0101", "", api.ErrOpts},
		{"000000", "", api.ErrOpts},
		{"0101010101", "", api.ErrOpts},
	} {
		got, err := Copied(unhex(c.area))
		if err != c.err || !bytes.Equal(got, unhex(c.want)) {
			t.Errorf("P3.8: Copied(%s) = %x, %d, want %s, %d", c.area, got, err, c.want, c.err)
		}
		checkOptions(t, unhex(c.area))
	}
}

func TestP3_8TheLongestArea(t *testing.T) {
	whole := joined([]byte{0x83, 40}, fill(38, 9))
	for _, area := range [][]byte{fill(40, 1), fill(40, 0), whole} {
		checkOptions(t, area)
		if _, err := Copied(area); err != api.OK {
			t.Errorf("P3.8: Copied of 40 bytes (%x): %d", area, err)
		}
	}
	if got, _ := Copied(whole); !bytes.Equal(got, whole) {
		t.Errorf("P3.8: Copied(%x) = %x", whole, got)
	}
	for _, n := range []int{41, 42, 43, 44, 48, 60, 255, 256, 65536} {
		for _, v := range []byte{0, 1} {
			checkOptions(t, fill(n, v))
			if got, err := Copied(fill(n, v)); err != api.ErrOpts || len(got) != 0 {
				t.Errorf("P3.8: Copied of %d bytes %d = %x, %d", n, v, got, err)
			}
		}
	}
}

func TestP3_8AllShortAreas(t *testing.T) {
	alphabet := []byte{0, 1, 2, 3, 4, 5, 6, 0x7f, 0x80, 0x82, 0xff}
	each := func(n int, do func(area []byte)) {
		area := make([]byte, n)
		var put func(i int)
		put = func(i int) {
			if i == n {
				do(area)
				return
			}
			for _, v := range alphabet {
				area[i] = v
				put(i + 1)
			}
		}
		put(0)
	}
	for n := range 5 {
		each(n, func(area []byte) { checkOptions(t, area) })
	}
	each(4, func(area []byte) { checkOptions(t, joined(area, []byte{0x83, 2, 1, 0})) })
	each(4, func(area []byte) { checkOptions(t, joined([]byte{0x83, 3, 9, 1}, area)) })
}

func TestP3_8SomeAreas(t *testing.T) {
	roll := dice()
	for range 5000 {
		area := someOptions(roll)
		if _, ok := modelOptions(area); !ok {
			t.Fatalf("the test's own area %x", area)
		}
		checkOptions(t, area)
		if len(area) > 0 {
			area[roll.Intn(len(area))] = byte(roll.Int())
			checkOptions(t, area)
			checkOptions(t, area[:roll.Intn(len(area))])
		}
	}
}

package vault

import (
	"errors"
	"strings"
	"testing"

	"weft/api"
)

// Inside, a fault tells at which record it was found and what the layer below said; outside it is a number.
func TestP13_1InnerErrors(t *testing.T) {
	one, bad, img := plain(tick(1)), []byte{6}, imageOf(api.Image{})
	for _, row := range []struct {
		recs   [][]byte
		number int
		below  api.Errno // OK: no layer below was asked
	}{
		{[][]byte{bad}, 0, api.OK}, {[][]byte{{}}, 0, api.OK}, {[][]byte{one, bad, bad}, 1, api.OK}, {[][]byte{img, one, one, {}}, 3, api.OK},
		{[][]byte{img, img}, 1, api.OK}, {[][]byte{one, img}, 1, api.OK}, {[][]byte{img[:20], bad}, 0, api.OK},
		{[][]byte{imageOf(api.Image{Rev: 1}), bad}, 0, api.ErrImage}, {[][]byte{plain(release(0))}, 0, api.ErrLease},
		{[][]byte{img, one, plain(release(9)), bad}, 2, api.ErrArg}, {[][]byte{one, plain(tick(-1))}, 1, api.ErrArg},
	} {
		v, err := open(config(), based(row.recs...))
		var at *recordError
		if v != nil || !errors.Is(err, errRecord) || !errors.As(err, &at) || at.number != row.number {
			t.Errorf("P13.1: %x: %v, %v", row.recs, v, err)
			continue
		}
		var r *refusal
		if errors.As(err, &r) != (row.below != api.OK) || r != nil && r.errno != row.below {
			t.Errorf("P13.1: %x: %v", row.recs, err)
		}
		if text := err.Error(); !strings.Contains(text, errRecord.Error()) || !strings.Contains(text, "record ") {
			t.Errorf("P13.1: %q", text)
		}
		if errnoOf(err) != api.ErrState {
			t.Errorf("P13.1: errnoOf(%v) = %d", err, errnoOf(err))
		}
	}
	for _, row := range []struct {
		c    api.Config
		d    api.Disk
		what error
		want api.Errno
	}{
		{api.Config{}, api.Disk{}, errConfig, api.ErrValue}, {config(), badDisks()[0], errDisk, api.ErrDisk},
	} {
		v, err := open(row.c, row.d)
		var r *refusal
		if v != nil || !errors.Is(err, row.what) || errors.Is(err, errRecord) || !errors.As(err, &r) || r.errno != row.want || errnoOf(err) != row.want {
			t.Errorf("P13.1: %v, %v, want %d", v, err, row.want)
		}
		if !strings.Contains(err.Error(), row.what.Error()) {
			t.Errorf("P13.1: %q", err.Error())
		}
	}
}

// A write that did not get down for certain marks the vault, and only such a write does.
func TestP13_2Keep(t *testing.T) {
	v, _ := Open(config(), api.Disk{})
	v.store.Apply(tick(1))
	if err := v.keep(tick(1), api.Prefix{}); err != nil || v.down {
		t.Errorf("P13.2: keep = %v, %v", err, v.down)
	}
	v.armed = 9
	if err := v.keep(tick(1), api.Prefix{}); !errors.Is(err, errTorn) || !v.down {
		t.Errorf("P13.2: keep = %v, %v", err, v.down)
	}
	if refused(api.OK, errWrite) != nil {
		t.Error("P13.2: nothing was refused")
	}
}

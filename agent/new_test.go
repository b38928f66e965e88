package agent

import (
	"math"
	"testing"

	"weft/api"
)

func TestP16_3Limits(t *testing.T) {
	for _, host := range []int{0, 1, 2, 62, 63} {
		for _, span := range []int64{1, 2, 5, 1<<40 - 1, 1 << 40} {
			b := begun(t, api.Self{Host: host, Pub: pub(1), MAC: mac(1), Renew: span})
			b.view()
			b.asks(0, dump)
		}
	}
	for _, host := range []int{math.MinInt, -64, -1, 64, 65, 1 << 32, math.MaxInt} {
		if a, err := New(api.Self{Host: host, Renew: 1}); a != nil || err != api.ErrArg {
			t.Errorf("P16.3: New of host %d = %v, %d", host, a, err)
		}
	}
	for _, span := range []int64{math.MinInt64, -1, 0, 1<<40 + 1, math.MaxInt64} {
		for _, host := range []int{0, 63, 64} {
			if a, err := New(api.Self{Host: host, Renew: span}); a != nil || err != api.ErrArg {
				t.Errorf("P16.3: New of host %d with Renew %d = %v, %d", host, span, a, err)
			}
		}
	}
}

// Pub and MAC may be anything.
func TestP16_3AnyPub(t *testing.T) {
	for _, s := range []api.Self{{Renew: 1}, {Pub: math.MaxUint32, MAC: api.MAC{255, 255, 255, 255, 255, 255}, Renew: 1}} {
		want := api.Req{Kind: api.ReqAcquire, Cmd: api.Cmd{Kind: api.Acquire, Pub: s.Pub, MAC: s.MAC}}
		begun(t, s).asks(0, dump).told(api.Resp{}).asks(0, snapshot).told(snap(0)).asks(0, want)
	}
}

// An agent that is new knows nothing.
func TestP16_3KnowsNothing(t *testing.T) {
	v := begun(t, self()).view()
	if v.Has || v.Lease != (api.Lease{}) || v.Cursor != 0 || v.Synced || v.Degraded || len(v.Leases) != 0 || len(v.Skipped) != 0 || !sameTables(v.Have, api.Tables{}) {
		t.Errorf("P16.3: %+v", v)
	}
}

package shell

import (
	"bytes"
	"math"
	"math/rand"
	"reflect"
	"runtime"
	"strings"
	"sync"
	"testing"
	"time"
	"unsafe"

	"weft/api"
)

// anyText is bytes by dice: of letters that scripts are made of, or any.
func anyText(r *rand.Rand, n int) string {
	b := make([]byte, r.Intn(n))
	for i := range b {
		b[i] = pick[byte](r, ' ', ' ', '\n', '-', '0', '1', 'f', 't', '#', '.', byte(r.Intn(256)))
	}
	return string(b)
}

// Whatever comes in, every call ends without a panic, and beside an error nothing else is told.
func TestP0_1Anything(t *testing.T) {
	r := dice(10)
	all := rows()
	for range 40000 {
		line := pick(r, "", all[r.Intn(len(all))].word, all[r.Intn(len(all))].word+" ") + anyText(r, 30)
		checkParse(t, line)
		if s, n, err := Play(config(1), line); err != api.OK && s != "" || err == api.OK && n != 0 {
			t.Fatalf("P0.2: Play(.., %s) = %s, %d, %d", brief(line), brief(s), n, err)
		}
	}
	for range 2000 {
		if s, n, err := Play(anyText(r, 200), anyText(r, 200)); s != "" || n != 0 || err == api.OK {
			t.Fatalf("P20.5: a configuration by dice: %s, %d, %d", brief(s), n, err)
		}
	}
	for _, n := range []int{math.MinInt, -1, 0, 1, 4, 12, 29, 30, math.MaxInt} {
		for _, b := range [][]byte{nil, {}, {0}, make([]byte, 1<<20)} {
			a := api.Act{Kind: n, Host: n, N: int64(n), At: n, Name: string(b), Bytes: b, Addr: api.Addr(n)}
			if line, err := FormatAct(a); err == api.OK || line != "" {
				t.Errorf("P20.2: FormatAct(%s) = %s, %d", brief(a), brief(line), err)
			}
		}
	}
}

// Nil and empty lists are the same, in acts and in replies.
func TestP0_4NilAndEmpty(t *testing.T) {
	for _, kind := range []int{api.ActSend, api.ActRaw, api.ActSpoil, api.ActCalm} {
		one, errOne := FormatAct(api.Act{Kind: kind})
		two, errTwo := FormatAct(api.Act{Kind: kind, Bytes: []byte{}})
		if one != two || errOne != api.OK || errTwo != api.OK {
			t.Errorf("P0.4: %q, %d and %q, %d", one, errOne, two, errTwo)
		}
	}
	if one, two := FormatReply(api.Reply{}), FormatReply(emptyLists()); one != two {
		t.Errorf("P0.4: %q and %q", one, two)
	}
}

// roomy is a copy of a list with spare room behind it, filled with e.
func roomy[E any](l []E, e E) []E {
	c := append(append(make([]E, 0, len(l)+4), l...), e, e, e, e)
	return c[:len(l)]
}

// roomyReply is the full reply, with spare room behind every list.
func roomyReply() api.Reply {
	r := fullReply()
	for i := range r.Given {
		r.Given[i].Bytes = roomy(r.Given[i].Bytes, 0xee)
	}
	for i := range r.Flight {
		r.Flight[i].Bytes = roomy(r.Flight[i].Bytes, 0xee)
	}
	r.Given, r.Flight = roomy(r.Given, api.Given{Host: 77, Bytes: []byte{7}}), roomy(r.Flight, api.Sent{To: 77, Bytes: []byte{7}})
	r.Leases, r.View.Leases = roomy(r.Leases, api.Lease{Host: 77}), roomy(r.View.Leases, api.Lease{Host: 77})
	for _, t := range []*api.Tables{&r.Tables, &r.View.Have} {
		t.Routes, t.Neighs, t.Fdbs = roomy(t.Routes, api.Route{Via: 77}), roomy(t.Neighs, api.Neigh{IP: 77}), roomy(t.Fdbs, api.Fdb{To: 77})
	}
	r.Pods, r.View.Skipped, r.Counts = roomy(r.Pods, api.Pod{Addr: 77}), roomy(r.View.Skipped, api.Prefix{Len: 77}), roomy(r.Counts, 77)
	r.Disk = api.Disk{A: roomy(r.Disk.A, 0xee), B: roomy(r.Disk.B, 0xee)}
	return r
}

// stretch makes every list of a value as long as its memory.
func stretch(v reflect.Value) {
	switch v.Kind() {
	case reflect.Struct:
		for i := range v.NumField() {
			stretch(v.Field(i))
		}
	case reflect.Slice:
		v.SetLen(v.Cap())
		for i := range v.Len() {
			stretch(v.Index(i))
		}
	}
}

// What is handed in is not changed, its spare room neither, and the spare room is not told.
func TestP0_3HandedIn(t *testing.T) {
	r, plain := roomyReply(), fullReply()
	if got, want := FormatReply(r), FormatReply(plain); got != want {
		t.Errorf("P0.3: a list's spare room is told: %s", brief(got))
	}
	untouched := roomyReply()
	stretch(reflect.ValueOf(&r).Elem())
	stretch(reflect.ValueOf(&untouched).Elem())
	if !reflect.DeepEqual(r, untouched) {
		t.Errorf("P0.3: FormatReply changed what was handed in: %s", brief(r))
	}
	b := roomy([]byte{1, 2, 3}, 0xee)
	writes(t, api.Act{Kind: api.ActSend, Bytes: b}, "send 0 010203")
	writesNot(t, api.ErrArg, api.Act{Kind: api.ActCalm, Bytes: b})
	writesNot(t, api.ErrLong, api.Act{Kind: api.ActPod, Host: 1, Name: strings.Repeat("a", api.MaxLine)})
	if !bytes.Equal(b[:cap(b)], []byte{1, 2, 3, 0xee, 0xee, 0xee, 0xee}) {
		t.Errorf("P0.3: FormatAct changed what was handed in: %x", b[:cap(b)])
	}
}

// What is answered is new memory: no two answers share bytes, and a name is not kept in its line.
func TestP0_3Answered(t *testing.T) {
	line := "send 0 " + strings.Repeat("0102", 20)
	one, _ := ParseAct(line)
	for range 3 {
		two, _ := ParseAct(line)
		whole := one.Bytes[:cap(one.Bytes)]
		for i := range whole {
			whole[i] = 0xee
		}
		_ = append(one.Bytes, 0xee)
		if want := bytes.Repeat([]byte{1, 2}, 20); !bytes.Equal(two.Bytes, want) {
			t.Errorf("P0.3: two answers share memory: %x", two.Bytes)
		}
		one = two
	}
	line = "pod 0 " + strings.Repeat("n", 40)
	a, _ := ParseAct(line)
	from := uintptr(unsafe.Pointer(unsafe.StringData(line)))
	if at := uintptr(unsafe.Pointer(unsafe.StringData(a.Name))); at >= from && at < from+uintptr(len(line)) {
		t.Errorf("P0.3: a name lies in the line that was handed in")
	}
}

// A text that was written is the caller's: later calls do not change it, nor do changes of what was handed in.
func TestP0_3TextStays(t *testing.T) {
	b := []byte{1, 2, 3}
	line, _ := FormatAct(api.Act{Kind: api.ActSend, Bytes: b})
	r := fullReply()
	text := FormatReply(r)
	was := strings.Clone(text)
	b[0], r.Given[0].Bytes[0], r.Counts[0], r.Leases[0].Host = 9, 9, 9, 9
	FormatAct(api.Act{Kind: api.ActSend, Bytes: b})
	FormatReply(r)
	if line != "send 0 010203" || text != was {
		t.Errorf("P0.3: a text changed: %q, %s", line, brief(text))
	}
}

// call is one call of the package, told as text.
type call func() string

// calls is calls of all four kinds, refused ones too.
func calls(r *rand.Rand) []call {
	var all []call
	for _, line := range []string{"tick 5", "spoil 2 0 ff", "pod 0 a", "pod 0 ", "x", "holder 10.5.1.2", "send 0 " + strings.Repeat("ab", 3000)} {
		all = append(all, func() string { a, err := ParseAct(line); return brief(a) + number(err) })
	}
	for range 10 {
		a, rep := anyAct(r), anyReply(r)
		all = append(all, func() string { s, err := FormatAct(a); return s + number(err) }, func() string { return FormatReply(rep) })
	}
	for _, s := range []string{"calm\nleases\nview 0\ndisk\n", "calm\npod 0 a\npods 0", "x", "tick 5\ntick 5\nleases", "leases", strings.Repeat("flight\n", 1025)} {
		for hosts := range 3 {
			all = append(all, func() string { text, n, err := Play(config(hosts), s); return text + number(n) + number(err) })
		}
	}
	return all
}

// Calls again and between one another: nothing is kept from one to the next.
func TestP20_6Again(t *testing.T) {
	r := dice(11)
	all := calls(r)
	first := make([]string, len(all))
	for i, c := range all {
		first[i] = c()
	}
	for range 2000 {
		i := r.Intn(len(all))
		if got := all[i](); got != first[i] {
			t.Fatalf("P20.6: call %d answers %s, at first %s", i, brief(got), brief(first[i]))
		}
	}
}

// The same at the same time, in goroutines.
func TestP20_6AtTheSameTime(t *testing.T) {
	all := calls(dice(12))
	first := make([]string, len(all))
	for i, c := range all {
		first[i] = c()
	}
	var wg sync.WaitGroup
	for seed := range int64(8) {
		wg.Go(func() {
			r := dice(100 + seed)
			for range 200 {
				i := r.Intn(len(all))
				if got := all[i](); got != first[i] {
					t.Errorf("P20.6: call %d answers %s, at first %s", i, brief(got), brief(first[i]))
					return
				}
			}
		})
	}
	wg.Wait()
}

// All goroutines have ended when a call answers.
func TestP0_5NoGoroutineIsLeft(t *testing.T) {
	before := runtime.NumGoroutine()
	for range 5 {
		Play(config(24, `"room":1`), "calm\ntick 100\ncalm\n")
	}
	for range 100 {
		if runtime.NumGoroutine() <= before {
			return
		}
		time.Sleep(time.Millisecond)
	}
	t.Errorf("P0.5: %d goroutines, ahead of it %d", runtime.NumGoroutine(), before)
}

package shell

import (
	"encoding/hex"
	"math"
	"reflect"
	"strconv"
	"strings"
	"testing"

	"weft/addr"
	"weft/api"
)

// twin is a copy that shares no memory; empty lists are nil in it.
func twin(v reflect.Value) reflect.Value {
	c := reflect.New(v.Type()).Elem()
	switch v.Kind() {
	case reflect.Slice:
		for i := range v.Len() {
			c.Set(reflect.Append(c, twin(v.Index(i))))
		}
	case reflect.Struct:
		for i := range v.NumField() {
			c.Field(i).Set(twin(v.Field(i)))
		}
	default:
		c.Set(v)
	}
	return c
}

func twinOf(r api.Reply) api.Reply { return twin(reflect.ValueOf(r)).Interface().(api.Reply) }

// sameReply: nil and empty lists do not differ.
func sameReply(a, b api.Reply) bool { return reflect.DeepEqual(twinOf(a), twinOf(b)) }

// visit calls change for every part of a value that can be changed alone: numbers, truths, texts, and lists as a whole.
func visit(v reflect.Value, change func(part reflect.Value)) {
	switch v.Kind() {
	case reflect.Struct:
		for i := range v.NumField() {
			visit(v.Field(i), change)
		}
		return
	case reflect.Slice, reflect.Array:
		for i := range v.Len() {
			visit(v.Index(i), change)
		}
		if v.Kind() == reflect.Array {
			return
		}
	}
	change(v)
}

// versions is other values for a part.
func versions(v reflect.Value) []reflect.Value {
	var all []reflect.Value
	add := func(x any) { all = append(all, reflect.ValueOf(x).Convert(v.Type())) }
	switch v.Kind() {
	case reflect.Bool:
		add(!v.Bool())
	case reflect.String:
		for _, s := range []string{"", "%", "-", "web", v.String() + "a", v.String() + "%", strings.ToUpper(v.String()), "%" + hex.EncodeToString([]byte(v.String()))} {
			add(s)
		}
	case reflect.Uint8:
		add(v.Uint() ^ 1)
		add(v.Uint() ^ 0x80)
	case reflect.Uint32:
		add(v.Uint() + 1)
		add(v.Uint() ^ 1<<31)
	case reflect.Int, reflect.Int64:
		for _, n := range []int64{0, 1, -1, 10, v.Int() + 1, -v.Int(), math.MaxInt64, math.MinInt64} {
			add(n)
		}
	case reflect.Slice:
		all = append(all, listVersions(v)...)
	}
	return all
}

// listVersions is the list with one element left out, with one doubled, with one that is zero in between, and with two that have changed places.
func listVersions(v reflect.Value) []reflect.Value {
	var all []reflect.Value
	join := func(parts ...reflect.Value) {
		l := reflect.MakeSlice(v.Type(), 0, 0)
		for _, p := range parts {
			l = reflect.AppendSlice(l, p)
		}
		all = append(all, l)
	}
	zero := reflect.MakeSlice(v.Type(), 1, 1)
	n := v.Len()
	join()
	for i := range n + 1 {
		join(v.Slice(0, i), zero, v.Slice(i, n))
		if i < n {
			join(v.Slice(0, i), v.Slice(i+1, n))
			join(v.Slice(0, i+1), v.Slice(i, n))
		}
		if i+1 < n {
			join(v.Slice(0, i), v.Slice(i+1, i+2), v.Slice(i, i+1), v.Slice(i+2, n))
		}
	}
	return all
}

// oneChanged is all replies that differ from r in one place.
func oneChanged(r api.Reply) []api.Reply {
	var all []api.Reply
	c := twinOf(r)
	whole := reflect.ValueOf(&c).Elem()
	visit(whole, func(part reflect.Value) {
		was := twin(part)
		for _, v := range versions(was) {
			part.Set(v)
			if !sameReply(c, r) {
				all = append(all, twinOf(c))
			}
			part.Set(was)
		}
	})
	return all
}

// Replies that differ in one place, or in two, have different texts.
func TestP20_4OneChanged(t *testing.T) {
	for _, base := range []api.Reply{{}, fullReply(), {View: api.View{Lease: lease1()}}, {Given: make([]api.Given, 2), Pods: make([]api.Pod, 2), Disk: api.Disk{A: []byte{1}}}} {
		texts := map[string]api.Reply{FormatReply(base): base}
		changed := oneChanged(base)
		if len(changed) < 50 {
			t.Fatalf("only %d replies", len(changed))
		}
		for _, r := range changed {
			text := FormatReply(r)
			if other, ok := texts[text]; ok && !sameReply(r, other) {
				t.Fatalf("P20.4: %s and %s have the text %s", brief(r), brief(other), brief(text))
			}
			texts[text] = r
		}
		// The other way round: no text hangs on what a list's memory is.
		for text, r := range texts {
			if FormatReply(twinOf(r)) != text {
				t.Fatalf("P20.3: the same reply has two texts")
			}
		}
	}
}

// A list that moved from one field to another of its kind is told as another.
func TestP20_4FieldsApart(t *testing.T) {
	tab := tables(5)
	for _, pair := range [][2]api.Reply{
		{{Tables: tab}, {View: api.View{Have: tab}}},
		{{Leases: []api.Lease{lease1()}}, {View: api.View{Leases: []api.Lease{lease1()}}}},
		{{View: api.View{Lease: lease1()}}, {View: api.View{Leases: []api.Lease{lease1()}}}},
		{{Disk: api.Disk{A: []byte{1}}}, {Disk: api.Disk{B: []byte{1}}}},
		{{Disk: api.Disk{A: []byte{1, 2}}}, {Disk: api.Disk{A: []byte{1}, B: []byte{2}}}},
		{{Counts: []int{1, 2}}, {Counts: []int{12}}},
		{{Pods: []api.Pod{{Name: "a", Addr: 1}}}, {Given: []api.Given{{Name: "a", To: 1}}}},
		{{Flight: []api.Sent{{To: 1, Bytes: []byte{1}}}}, {Given: []api.Given{{To: 1, Bytes: []byte{1}}}}},
		{{Tables: api.Tables{Neighs: []api.Neigh{{IP: 1, MAC: mac1}}}}, {Tables: api.Tables{Fdbs: []api.Fdb{{MAC: mac1, To: 1}}}}},
		{{View: api.View{Has: true}}, {View: api.View{Synced: true}}},
		{{View: api.View{Synced: true}}, {View: api.View{Degraded: true}}},
		{{Counts: []int{0}}, {}}, {{Pods: []api.Pod{{}}}, {}}, {{View: api.View{Skipped: []api.Prefix{{}}}}, {}},
		{{Pods: []api.Pod{{Name: "a\npod b", Addr: 1}}}, {Pods: []api.Pod{{Name: "a", Addr: 1}, {Name: "b", Addr: 1}}}},
	} {
		if FormatReply(pair[0]) == FormatReply(pair[1]) {
			t.Errorf("P20.4: %s and %s have one text", brief(pair[0]), brief(pair[1]))
		}
	}
}

// reader reads a reply's text back: what has one text is one reply.
type reader struct {
	t     *testing.T
	words []string
	r     api.Reply
}

func (r *reader) next() string {
	if len(r.words) == 0 {
		r.t.Fatalf("P20.3: a line is too short")
	}
	w := r.words[0]
	r.words = r.words[1:]
	return w
}

func (r *reader) is(word string) {
	if got := r.next(); got != word {
		r.t.Fatalf("P20.3: %q stands where %q should", got, word)
	}
}

func (r *reader) number() int64 {
	n, err := strconv.ParseInt(r.next(), 10, 64)
	if err != nil {
		r.t.Fatalf("P20.3: %v", err)
	}
	return n
}

func (r *reader) bytes() []byte {
	w := r.next()
	if w == "-" {
		return nil
	}
	b, err := hex.DecodeString(w)
	if err != nil || len(b) == 0 {
		r.t.Fatalf("P20.3: no bytes: %q", w)
	}
	return b
}

func (r *reader) name() string {
	w := r.next()
	if digits, ok := strings.CutPrefix(w, "%"); ok {
		b, err := hex.DecodeString(digits)
		if err != nil {
			r.t.Fatalf("P20.3: no name: %q", w)
		}
		return string(b)
	}
	return w
}

func (r *reader) addr() api.Addr {
	a, err := addr.Parse(r.next())
	if err != api.OK {
		r.t.Fatalf("P20.3: no address")
	}
	return a
}

func (r *reader) mac() api.MAC {
	m, err := addr.ParseMAC(r.next())
	if err != api.OK {
		r.t.Fatalf("P20.3: no MAC")
	}
	return m
}

func (r *reader) prefix() api.Prefix {
	a, n, _ := strings.Cut(r.next(), "/")
	r.words = append([]string{a, n}, r.words...)
	return api.Prefix{Addr: r.addr(), Len: int(r.number())}
}

func (r *reader) lease() api.Lease {
	return api.Lease{Host: int(r.number()), Subnet: r.prefix(), Pub: r.addr(), MAC: r.mac(), Until: r.number(), Rev: r.number()}
}

func (r *reader) route() api.Route {
	return api.Route{Dst: r.prefix(), Via: r.addr(), Local: r.next() == "local"}
}

func (r *reader) neigh() api.Neigh { return api.Neigh{IP: r.addr(), MAC: r.mac()} }

func (r *reader) fdb() api.Fdb { return api.Fdb{MAC: r.mac(), To: r.addr()} }

// line reads one line behind the first.
func (r *reader) line() {
	a := &r.r
	switch word := r.next(); word {
	case "given":
		a.Given = append(a.Given, api.Given{Host: int(r.number()), To: r.addr(), Name: r.name(), Bytes: r.bytes()})
	case "lease":
		a.Leases = append(a.Leases, r.lease())
	case "route":
		a.Tables.Routes = append(a.Tables.Routes, r.route())
	case "neigh":
		a.Tables.Neighs = append(a.Tables.Neighs, r.neigh())
	case "fdb":
		a.Tables.Fdbs = append(a.Tables.Fdbs, r.fdb())
	case "pod":
		a.Pods = append(a.Pods, api.Pod{Name: r.name(), Addr: r.addr()})
	case "sent":
		a.Flight = append(a.Flight, api.Sent{To: r.addr(), Bytes: r.bytes()})
	case "view":
		a.View.Has, a.View.Cursor, a.View.Synced, a.View.Degraded = r.number() == 1, r.number(), r.number() == 1, r.number() == 1
	case "own":
		a.View.Lease = r.lease()
	case "knows":
		a.View.Leases = append(a.View.Leases, r.lease())
	case "skipped":
		a.View.Skipped = append(a.View.Skipped, r.prefix())
	case "has-route":
		a.View.Have.Routes = append(a.View.Have.Routes, r.route())
	case "has-neigh":
		a.View.Have.Neighs = append(a.View.Have.Neighs, r.neigh())
	case "has-fdb":
		a.View.Have.Fdbs = append(a.View.Have.Fdbs, r.fdb())
	case "counts":
		for len(r.words) > 0 {
			a.Counts = append(a.Counts, int(r.number()))
		}
	case "disk":
		a.Disk = api.Disk{A: r.bytes(), B: r.bytes()}
	default:
		r.t.Fatalf("P20.3: a line begins with %q", word)
	}
}

// readBack is the reply that a text tells.
func readBack(t *testing.T, text string) api.Reply {
	t.Helper()
	if !strings.HasSuffix(text, "\n") {
		t.Fatalf("P20.3: no newline ends %s", brief(text))
	}
	r := reader{t: t}
	for i, line := range strings.Split(strings.TrimSuffix(text, "\n"), "\n") {
		r.words = strings.Split(line, " ")
		if i > 0 {
			r.line()
		} else {
			r.is("err")
			r.r.Err = api.Errno(r.number())
			r.is("n")
			r.r.N = r.number()
			r.is("verdict")
			r.r.Verdict = int(r.number())
			r.is("why")
			r.r.Why = api.Errno(r.number())
			r.is("req")
			r.r.Req = int(r.number())
		}
		if len(r.words) > 0 {
			t.Fatalf("P20.3: too many words: %s", brief(line))
		}
	}
	return r.r
}

// A text can be read back to its reply: so no other reply has it.
func TestP20_4ReadBack(t *testing.T) {
	r := dice(4)
	all := append(oneChanged(fullReply()), oneChanged(api.Reply{})...)
	for range 20000 {
		all = append(all, anyReply(r))
	}
	for _, a := range all {
		if got := readBack(t, FormatReply(a)); !sameReply(got, a) {
			t.Fatalf("P20.4: %s is told as %s", brief(a), brief(got))
		}
	}
}

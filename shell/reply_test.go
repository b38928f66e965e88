package shell

import (
	"math"
	"math/rand"
	"strings"
	"testing"

	"weft/api"
)

var (
	mac1 = api.MAC{2, 0, 192, 0, 2, 10}
	mac2 = api.MAC{255, 254, 1, 16, 0, 171}
)

func lease1() api.Lease {
	return api.Lease{Host: 1, Subnet: api.Prefix{Addr: quad(10, 5, 1, 0), Len: 24}, Pub: quad(192, 0, 2, 10), MAC: mac1, Until: 100, Rev: 3}
}

func lease2() api.Lease {
	return api.Lease{Host: 2, Subnet: api.Prefix{Addr: quad(10, 5, 2, 0), Len: 25}, Pub: quad(192, 0, 2, 11), MAC: mac2, Until: 101, Rev: 4}
}

const (
	leaseText1 = "1 10.5.1.0/24 192.0.2.10 02:00:c0:00:02:0a 100 3"
	leaseText2 = "2 10.5.2.0/25 192.0.2.11 ff:fe:01:10:00:ab 101 4"
)

// tables is two lines of each kind; n tells them from others.
func tables(n int) api.Tables {
	return api.Tables{
		Routes: []api.Route{{Dst: api.Prefix{Addr: quad(10, n, 1, 0), Len: 24}, Local: true}, {Dst: api.Prefix{Addr: quad(10, n, 2, 0), Len: 24}, Via: quad(10, n, 2, 0)}},
		Neighs: []api.Neigh{{IP: quad(10, n, 2, 0), MAC: mac1}, {IP: quad(10, n, 3, 0), MAC: mac2}},
		Fdbs:   []api.Fdb{{MAC: mac1, To: quad(192, n, 2, 10)}, {MAC: mac2, To: quad(192, n, 2, 11)}},
	}
}

// fullReply is a reply with every field and every list filled.
func fullReply() api.Reply {
	return api.Reply{
		Err: 130, N: -7, Verdict: 13, Why: 33, Req: 6,
		Given:  []api.Given{{Host: 2, To: quad(10, 5, 3, 2), Name: "db", Bytes: []byte{0x45, 0}}, {Host: 3, To: quad(10, 5, 4, 2), Name: "Db", Bytes: nil}},
		Leases: []api.Lease{lease1(), lease2()},
		Tables: tables(5),
		Pods:   []api.Pod{{Name: "web", Addr: quad(10, 5, 1, 2)}, {Name: "", Addr: quad(10, 5, 1, 3)}},
		Flight: []api.Sent{{To: quad(192, 0, 2, 11), Bytes: []byte{1, 2, 3}}, {To: quad(192, 0, 2, 12)}},
		View: api.View{
			Has: true, Lease: lease2(), Cursor: 9, Synced: false, Degraded: true, Leases: []api.Lease{lease2(), lease1()},
			Skipped: []api.Prefix{{Addr: quad(10, 5, 7, 0), Len: 24}, {Addr: quad(10, 5, 8, 0), Len: 26}}, Have: tables(6),
		},
		Counts: []int{0, 5, -2, 11},
		Disk:   api.Disk{A: []byte{0xde, 0xad}, B: []byte{0xbe}},
	}
}

// Every field and every list, in their order.
func TestP20_3Full(t *testing.T) {
	tells(t, fullReply(),
		"err 130 n -7 verdict 13 why 33 req 6",
		"given 2 10.5.3.2 db 4500",
		"given 3 10.5.4.2 %4462 -",
		"lease "+leaseText1,
		"lease "+leaseText2,
		"route 10.5.1.0/24 0.0.0.0 local",
		"route 10.5.2.0/24 10.5.2.0 remote",
		"neigh 10.5.2.0 02:00:c0:00:02:0a",
		"neigh 10.5.3.0 ff:fe:01:10:00:ab",
		"fdb 02:00:c0:00:02:0a 192.5.2.10",
		"fdb ff:fe:01:10:00:ab 192.5.2.11",
		"pod web 10.5.1.2",
		"pod % 10.5.1.3",
		"sent 192.0.2.11 010203",
		"sent 192.0.2.12 -",
		"view 1 9 0 1",
		"own "+leaseText2,
		"knows "+leaseText2,
		"knows "+leaseText1,
		"skipped 10.5.7.0/24",
		"skipped 10.5.8.0/26",
		"has-route 10.6.1.0/24 0.0.0.0 local",
		"has-route 10.6.2.0/24 10.6.2.0 remote",
		"has-neigh 10.6.2.0 02:00:c0:00:02:0a",
		"has-neigh 10.6.3.0 ff:fe:01:10:00:ab",
		"has-fdb 02:00:c0:00:02:0a 192.6.2.10",
		"has-fdb ff:fe:01:10:00:ab 192.6.2.11",
		"counts 0 5 -2 11",
		"disk dead be",
	)
}

// A zero reply, and one whose lists are empty but not nil.
func TestP20_3Zero(t *testing.T) {
	adds(t, api.Reply{})
	adds(t, emptyLists())
}

func emptyLists() api.Reply {
	none := api.Tables{Routes: []api.Route{}, Neighs: []api.Neigh{}, Fdbs: []api.Fdb{}}
	return api.Reply{
		Given: []api.Given{}, Leases: []api.Lease{}, Tables: none, Pods: []api.Pod{}, Flight: []api.Sent{}, Counts: []int{}, Disk: api.Disk{A: []byte{}, B: make([]byte, 0, 8)},
		View: api.View{Leases: []api.Lease{}, Skipped: make([]api.Prefix, 0, 3), Have: none},
	}
}

// The first line: each field alone, at the ends of its type.
func TestP20_3FirstLine(t *testing.T) {
	for n, s := range map[int]string{1: "1", -1: "-1", 10: "10", 150: "150", math.MaxInt: "9223372036854775807", math.MinInt: "-9223372036854775808"} {
		tells(t, api.Reply{Err: api.Errno(n)}, "err "+s+" n 0 verdict 0 why 0 req 0")
		tells(t, api.Reply{N: int64(n)}, "err 0 n "+s+" verdict 0 why 0 req 0")
		tells(t, api.Reply{Verdict: n}, "err 0 n 0 verdict "+s+" why 0 req 0")
		tells(t, api.Reply{Why: api.Errno(n)}, "err 0 n 0 verdict 0 why "+s+" req 0")
		tells(t, api.Reply{Req: n}, "err 0 n 0 verdict 0 why 0 req "+s)
	}
}

// Numbers at the ends of their types, and prefixes that are not valid.
func TestP20_3Ends(t *testing.T) {
	const low, high = "-9223372036854775808", "9223372036854775807"
	lows := api.Lease{Host: math.MinInt, Subnet: api.Prefix{Addr: math.MaxUint32, Len: math.MinInt}, Pub: math.MaxUint32, MAC: api.MAC{255, 255, 255, 255, 255, 255}, Until: math.MinInt64, Rev: math.MinInt64}
	highs := api.Lease{Host: math.MaxInt, Subnet: api.Prefix{Addr: 1, Len: math.MaxInt}, Until: math.MaxInt64, Rev: math.MaxInt64}
	lowText := low + " 255.255.255.255/" + low + " 255.255.255.255 ff:ff:ff:ff:ff:ff " + low + " " + low
	highText := high + " 0.0.0.1/" + high + " 0.0.0.0 00:00:00:00:00:00 " + high + " " + high
	adds(t, api.Reply{Leases: []api.Lease{lows, highs}}, "lease "+lowText, "lease "+highText)
	adds(t, api.Reply{View: api.View{Cursor: math.MinInt64, Lease: lows, Leases: []api.Lease{highs}}}, "view 0 "+low+" 0 0", "own "+lowText, "knows "+highText)
	adds(t, api.Reply{View: api.View{Cursor: math.MaxInt64}}, "view 0 "+high+" 0 0", "own 0 0.0.0.0/0 0.0.0.0 00:00:00:00:00:00 0 0")
	adds(t, api.Reply{Given: []api.Given{{Host: math.MinInt}, {Host: math.MaxInt, To: math.MaxUint32}}}, "given "+low+" 0.0.0.0 % -", "given "+high+" 255.255.255.255 % -")
	adds(t, api.Reply{Counts: []int{math.MinInt, 0, math.MaxInt}}, "counts "+low+" 0 "+high)
}

func TestP20_3Prefixes(t *testing.T) {
	for text, p := range map[string]api.Prefix{
		"0.0.0.0/0": {}, "10.5.1.2/24": {Addr: quad(10, 5, 1, 2), Len: 24}, "10.0.0.0/33": {Addr: quad(10, 0, 0, 0), Len: 33}, "10.0.0.0/-1": {Addr: quad(10, 0, 0, 0), Len: -1},
		"255.255.255.255/0": {Addr: math.MaxUint32}, "255.255.255.255/32": {Addr: math.MaxUint32, Len: 32}, "0.0.0.1/100": {Addr: 1, Len: 100},
	} {
		adds(t, api.Reply{Tables: api.Tables{Routes: []api.Route{{Dst: p, Via: 7}}}}, "route "+text+" 0.0.0.7 remote")
		adds(t, api.Reply{Leases: []api.Lease{{Subnet: p}}}, "lease 0 "+text+" 0.0.0.0 00:00:00:00:00:00 0 0")
		adds(t, api.Reply{View: api.View{Skipped: []api.Prefix{p}}}, "view 0 0 0 0", "own 0 0.0.0.0/0 0.0.0.0 00:00:00:00:00:00 0 0", "skipped "+text)
	}
}

// Names that are empty, plain and not plain.
func TestP20_3Names(t *testing.T) {
	for name, text := range map[string]string{
		"": "%", "a": "a", "z": "z", "0": "0", "9": "9", "-": "-", "web": "web", "a-9": "a-9", "--": "--", "0123456789abcdefghijklmnopqrstuvwxyz-": "0123456789abcdefghijklmnopqrstuvwxyz-",
		"A": "%41", "Z": "%5a", "%": "%25", "%41": "%253431", "a b": "%612062", " ": "%20", "\n": "%0a", "a\n": "%610a", "_": "%5f", "a_": "%615f", "é": "%c3a9", "aé": "%61c3a9", "\xff": "%ff", "\x00": "%00", "ａ": "%efbd81", "٣": "%d9a3", "�": "%efbfbd",
	} {
		adds(t, api.Reply{Pods: []api.Pod{{Name: name, Addr: 5}}}, "pod "+text+" 0.0.0.5")
		adds(t, api.Reply{Given: []api.Given{{Host: 1, To: 5, Name: name, Bytes: []byte{9}}}}, "given 1 0.0.0.5 "+text+" 09")
	}
	for c := range 256 {
		for _, name := range []string{string([]byte{byte(c)}), string([]byte{'a', byte(c)}), string([]byte{byte(c), 'a'})} {
			adds(t, api.Reply{Pods: []api.Pod{{Name: name}}}, "pod "+modelName(name)+" 0.0.0.0")
		}
	}
}

// A view in which one field alone is not zero.
func TestP20_3View(t *testing.T) {
	const none = "own 0 0.0.0.0/0 0.0.0.0 00:00:00:00:00:00 0 0"
	for _, c := range []struct {
		v     api.View
		lines []string
	}{
		{api.View{Has: true}, []string{"view 1 0 0 0", none}},
		{api.View{Cursor: 1}, []string{"view 0 1 0 0", none}},
		{api.View{Cursor: -1}, []string{"view 0 -1 0 0", none}},
		{api.View{Synced: true}, []string{"view 0 0 1 0", none}},
		{api.View{Degraded: true}, []string{"view 0 0 0 1", none}},
		{api.View{Lease: api.Lease{Host: 1}}, []string{"view 0 0 0 0", "own 1 0.0.0.0/0 0.0.0.0 00:00:00:00:00:00 0 0"}},
		{api.View{Lease: api.Lease{Subnet: api.Prefix{Addr: 1}}}, []string{"view 0 0 0 0", "own 0 0.0.0.1/0 0.0.0.0 00:00:00:00:00:00 0 0"}},
		{api.View{Lease: api.Lease{Subnet: api.Prefix{Len: 1}}}, []string{"view 0 0 0 0", "own 0 0.0.0.0/1 0.0.0.0 00:00:00:00:00:00 0 0"}},
		{api.View{Lease: api.Lease{Pub: 1}}, []string{"view 0 0 0 0", "own 0 0.0.0.0/0 0.0.0.1 00:00:00:00:00:00 0 0"}},
		{api.View{Lease: api.Lease{MAC: api.MAC{5: 1}}}, []string{"view 0 0 0 0", "own 0 0.0.0.0/0 0.0.0.0 00:00:00:00:00:01 0 0"}},
		{api.View{Lease: api.Lease{Until: 1}}, []string{"view 0 0 0 0", "own 0 0.0.0.0/0 0.0.0.0 00:00:00:00:00:00 1 0"}},
		{api.View{Lease: api.Lease{Rev: 1}}, []string{"view 0 0 0 0", "own 0 0.0.0.0/0 0.0.0.0 00:00:00:00:00:00 0 1"}},
		// A list of one element that is zero is not empty.
		{api.View{Leases: []api.Lease{{}}}, []string{"view 0 0 0 0", none, "knows 0 0.0.0.0/0 0.0.0.0 00:00:00:00:00:00 0 0"}},
		{api.View{Skipped: []api.Prefix{{}}}, []string{"view 0 0 0 0", none, "skipped 0.0.0.0/0"}},
		{api.View{Have: api.Tables{Routes: []api.Route{{}}}}, []string{"view 0 0 0 0", none, "has-route 0.0.0.0/0 0.0.0.0 remote"}},
		{api.View{Have: api.Tables{Neighs: []api.Neigh{{}}}}, []string{"view 0 0 0 0", none, "has-neigh 0.0.0.0 00:00:00:00:00:00"}},
		{api.View{Have: api.Tables{Fdbs: []api.Fdb{{}}}}, []string{"view 0 0 0 0", none, "has-fdb 00:00:00:00:00:00 0.0.0.0"}},
	} {
		adds(t, api.Reply{View: c.v}, c.lines...)
	}
}

// Each other list alone, with one zero element and with more.
func TestP20_3Lists(t *testing.T) {
	full := fullReply()
	adds(t, api.Reply{Given: []api.Given{{}}}, "given 0 0.0.0.0 % -")
	adds(t, api.Reply{Leases: []api.Lease{{}}}, "lease 0 0.0.0.0/0 0.0.0.0 00:00:00:00:00:00 0 0")
	adds(t, api.Reply{Leases: full.Leases}, "lease "+leaseText1, "lease "+leaseText2)
	adds(t, api.Reply{Leases: []api.Lease{lease2(), lease1(), lease2()}}, "lease "+leaseText2, "lease "+leaseText1, "lease "+leaseText2)
	adds(t, api.Reply{Tables: api.Tables{Routes: []api.Route{{}, {Local: true}}}}, "route 0.0.0.0/0 0.0.0.0 remote", "route 0.0.0.0/0 0.0.0.0 local")
	adds(t, api.Reply{Tables: api.Tables{Neighs: []api.Neigh{{}, {IP: 1, MAC: mac2}}}}, "neigh 0.0.0.0 00:00:00:00:00:00", "neigh 0.0.0.1 ff:fe:01:10:00:ab")
	adds(t, api.Reply{Tables: api.Tables{Fdbs: []api.Fdb{{}, {MAC: mac2, To: 1}}}}, "fdb 00:00:00:00:00:00 0.0.0.0", "fdb ff:fe:01:10:00:ab 0.0.0.1")
	adds(t, api.Reply{Pods: []api.Pod{{}}}, "pod % 0.0.0.0")
	adds(t, api.Reply{Flight: []api.Sent{{}, {To: 5, Bytes: []byte{10, 0xff}}, {Bytes: []byte{}}}}, "sent 0.0.0.0 -", "sent 0.0.0.5 0aff", "sent 0.0.0.0 -")
}

func TestP20_3Counts(t *testing.T) {
	adds(t, api.Reply{Counts: []int{0}}, "counts 0")
	adds(t, api.Reply{Counts: []int{0, 0}}, "counts 0 0")
	adds(t, api.Reply{Counts: []int{0, 7, -1}}, "counts 0 7 -1")
	adds(t, api.Reply{Counts: make([]int, api.Verdicts)}, "counts"+strings.Repeat(" 0", api.Verdicts))
}

func TestP20_3Disk(t *testing.T) {
	adds(t, api.Reply{Disk: api.Disk{A: []byte{0}}}, "disk 00 -")
	adds(t, api.Reply{Disk: api.Disk{B: []byte{0}}}, "disk - 00")
	adds(t, api.Reply{Disk: api.Disk{A: []byte{}, B: []byte{1, 171}}}, "disk - 01ab")
	adds(t, api.Reply{Disk: api.Disk{A: []byte{1, 171}, B: []byte{}}}, "disk 01ab -")
	adds(t, api.Reply{Disk: api.Disk{A: []byte{1, 2}, B: []byte{3}}}, "disk 0102 03")
}

// Bytes of every value, and long lists.
func TestP20_3Long(t *testing.T) {
	b := make([]byte, 1<<20)
	for i := range b {
		b[i] = byte(i)
	}
	adds(t, api.Reply{Flight: []api.Sent{{Bytes: b}}}, "sent 0.0.0.0 "+modelBytes(b))
	adds(t, api.Reply{Disk: api.Disk{A: b, B: b}}, "disk "+modelBytes(b)+" "+modelBytes(b))
	adds(t, api.Reply{Pods: make([]api.Pod, 100000)}, strings.TrimSuffix(strings.Repeat("pod % 0.0.0.0\n", 100000), "\n"))
	adds(t, api.Reply{Counts: make([]int, 100000)}, "counts"+strings.Repeat(" 0", 100000))
	name := strings.Repeat("N", 100000)
	adds(t, api.Reply{Pods: []api.Pod{{Name: name}}}, "pod %"+strings.Repeat("4e", 100000)+" 0.0.0.0")
}

// list is up to two elements by dice.
func list[E any](r *rand.Rand, one func() E) []E {
	l := make([]E, r.Intn(3))
	for i := range l {
		l[i] = one()
	}
	return l
}

func anyAddr(r *rand.Rand) api.Addr { return pick(r, 0, 1, api.Addr(r.Uint32())) }

func anyMAC(r *rand.Rand) api.MAC {
	var m api.MAC
	r.Read(m[:])
	return pick(r, m, api.MAC{}, mac1)
}

func anyPrefix(r *rand.Rand) api.Prefix {
	return api.Prefix{Addr: anyAddr(r), Len: pick(r, 0, 8, 24, 32, 33, -1, int(anyNumber(r)))}
}

func anyLease(r *rand.Rand) api.Lease {
	if r.Intn(3) == 0 {
		return api.Lease{}
	}
	return api.Lease{Host: int(anyNumber(r)), Subnet: anyPrefix(r), Pub: anyAddr(r), MAC: anyMAC(r), Until: anyNumber(r), Rev: anyNumber(r)}
}

func anyTables(r *rand.Rand) api.Tables {
	return api.Tables{
		Routes: list(r, func() api.Route { return api.Route{Dst: anyPrefix(r), Via: anyAddr(r), Local: r.Intn(2) == 0} }),
		Neighs: list(r, func() api.Neigh { return api.Neigh{IP: anyAddr(r), MAC: anyMAC(r)} }),
		Fdbs:   list(r, func() api.Fdb { return api.Fdb{MAC: anyMAC(r), To: anyAddr(r)} }),
	}
}

// anyReply is a reply by dice: each part is there or not.
func anyReply(r *rand.Rand) api.Reply {
	var a api.Reply
	for _, put := range []func(){
		func() { a.Err, a.Why = api.Errno(anyNumber(r)), api.Errno(anyNumber(r)) },
		func() { a.N, a.Verdict, a.Req = anyNumber(r), int(anyNumber(r)), int(anyNumber(r)) },
		func() {
			a.Given = list(r, func() api.Given {
				return api.Given{Host: int(anyNumber(r)), To: anyAddr(r), Name: anyName(r), Bytes: anyBytes(r)}
			})
		},
		func() { a.Leases = list(r, func() api.Lease { return anyLease(r) }) },
		func() { a.Tables = anyTables(r) },
		func() { a.Pods = list(r, func() api.Pod { return api.Pod{Name: anyName(r), Addr: anyAddr(r)} }) },
		func() { a.Flight = list(r, func() api.Sent { return api.Sent{To: anyAddr(r), Bytes: anyBytes(r)} }) },
		func() { a.View.Has, a.View.Synced, a.View.Degraded = r.Intn(2) == 0, r.Intn(2) == 0, r.Intn(2) == 0 },
		func() { a.View.Lease, a.View.Cursor = anyLease(r), anyNumber(r) },
		func() {
			a.View.Leases, a.View.Skipped = list(r, func() api.Lease { return anyLease(r) }), list(r, func() api.Prefix { return anyPrefix(r) })
		},
		func() { a.View.Have = anyTables(r) },
		func() { a.Counts = list(r, func() int { return int(anyNumber(r)) }) },
		func() { a.Disk = api.Disk{A: anyBytes(r), B: anyBytes(r)} },
	} {
		if r.Intn(3) == 0 {
			put()
		}
	}
	return a
}

// Replies by dice, against the model.
func TestP20_3AnyReply(t *testing.T) {
	r := dice(3)
	for range 30000 {
		a := anyReply(r)
		if got, want := FormatReply(a), modelReply(a); got != want {
			t.Fatalf("P20.3: FormatReply(%s) = %s, want %s", brief(a), brief(got), brief(want))
		}
	}
}

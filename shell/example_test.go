package shell

import (
	"testing"

	"weft/api"
)

// The chapter's examples of lines, one by one.
func TestP20_1Examples(t *testing.T) {
	reads(t, "tick 5", api.Act{Kind: 1, N: 5})
	reads(t, "step 0 -3", api.Act{Kind: 2, Host: 0, N: -3})
	refuses(t, api.ErrNumber, "tick 05", "tick +5", "tick -0", "tick ", "tick 9223372036854775808")
	refuses(t, api.ErrCount, "tick", "tick 5 6", "tick 5 ", "calm ")
	refuses(t, api.ErrWord, "Tick 5", "", " tick 5", "tick 5\n")
	refuses(t, api.ErrNumber, "spoil x 1 zz")
	refuses(t, api.ErrHex, "spoil 0 1 0F", "spoil 0 1 f", "spoil 0 1 ")
	reads(t, "send 1 -", api.Act{Kind: 12, Host: 1})
	refuses(t, api.ErrName, "pod 0 ")
	reads(t, "pod 0 Web_1", api.Act{Kind: 10, Host: 0, Name: "Web_1"})
	refuses(t, api.ErrAddr, "holder 10.5.1")
}

func TestP20_2Examples(t *testing.T) {
	writes(t, api.Act{Kind: 17, At: 2, N: 0, Bytes: []byte{255}}, "spoil 2 0 ff")
	writesNot(t, api.ErrArg, api.Act{Kind: 4, Host: 1}, api.Act{Kind: 0}, api.Act{Kind: 30})
	writesNot(t, api.ErrName, api.Act{Kind: 10, Name: "a b"})
}

func TestP20_3Examples(t *testing.T) {
	tells(t, api.Reply{}, "err 0 n 0 verdict 0 why 0 req 0")
	tells(t, api.Reply{N: -1, Given: []api.Given{{Host: 2, To: quad(10, 5, 3, 2), Name: "db", Bytes: []byte{0x45, 0}}}}, "err 0 n -1 verdict 0 why 0 req 0", "given 2 10.5.3.2 db 4500")
	tells(t, api.Reply{Pods: []api.Pod{{Name: "", Addr: quad(10, 5, 1, 2)}, {Name: "A", Addr: quad(10, 5, 1, 3)}}}, "err 0 n 0 verdict 0 why 0 req 0", "pod % 10.5.1.2", "pod %41 10.5.1.3")
	tells(t, api.Reply{View: api.View{Cursor: 3}}, "err 0 n 0 verdict 0 why 0 req 0", "view 0 3 0 0", "own 0 0.0.0.0/0 0.0.0.0 00:00:00:00:00:00 0 0")
}

func TestP20_5Examples(t *testing.T) {
	want := script(
		"> step 0 3",
		"err 0 n 0 verdict 0 why 0 req 4",
		"> leases",
		"err 0 n 1 verdict 0 why 0 req 0",
		"lease 0 10.5.1.0/24 192.0.2.10 02:00:c0:00:02:0a 100 1",
	)
	plays(t, config(1), "# one\n\nstep 0 3\nleases\n", want)
	plays(t, config(1), "# one\n\nstep 0 3\nleases", want)
	playsNot(t, config(1), "# one\n\nstep 0 3\nleases\nstep 0", 5, api.ErrCount)
	playsNot(t, config(1), "# one\n\nstep 0 3\nleases\nstep 0\n", 5, api.ErrCount)
	// What the examples say of the world's own refusals.
	plays(t, config(1), "step 0 -3\npod 0 Web_1\ncalm\npod 0 Web_1\n", script(
		"> step 0 -3",
		"err 1 n 0 verdict 0 why 0 req 0",
		"> pod 0 Web_1",
		"err 191 n 0 verdict 0 why 0 req 0",
		"> calm",
		"err 0 n 6 verdict 0 why 0 req 0",
		"> pod 0 Web_1",
		"err 150 n 0 verdict 0 why 0 req 0",
	))
}

// Examples of the whole, from text to text: leases, tables, a view, a packet that arrives, one that has no route, a store that goes down and comes back.
func TestP20_5Whole(t *testing.T) {
	const (
		packet = "4500001800000000401163c80a0501020a05020201020304" // 10.5.1.2 to 10.5.2.2, TTL 64
		lost   = "4500001800000000401165c50a0501020a09000101020304" // 10.5.1.2 to 10.9.0.1
		none   = "err 0 n 0 verdict 0 why 0 req 0"
	)
	given := func(n string) []string {
		return []string{
			"lease 0 10.5.1.0/24 192.0.2.10 02:00:c0:00:02:0a " + n + "00 1",
			"lease 1 10.5.2.0/24 192.0.2.11 02:00:c0:00:02:0b " + n + "00 2",
			"lease 2 10.5.3.0/24 192.0.2.12 02:00:c0:00:02:0c " + n + "00 3",
		}
	}
	var acts, want []string
	do := func(act string, lines ...string) {
		acts = append(acts, act)
		want = append(append(want, "> "+act), lines...)
	}
	do("leases", none)
	do("tables 0", none)
	do("view 0", none)
	do("calm", "err 0 n 12 verdict 0 why 0 req 0")
	do("leases", append([]string{"err 0 n 3 verdict 0 why 0 req 0"}, given("1")...)...)
	do("tables 0", none,
		"route 10.5.1.0/24 0.0.0.0 local", "route 10.5.2.0/24 10.5.2.0 remote", "route 10.5.3.0/24 10.5.3.0 remote",
		"neigh 10.5.2.0 02:00:c0:00:02:0b", "neigh 10.5.3.0 02:00:c0:00:02:0c", "fdb 02:00:c0:00:02:0b 192.0.2.11", "fdb 02:00:c0:00:02:0c 192.0.2.12")
	do("view 0", none, "view 1 3 1 0", "own 0 10.5.1.0/24 192.0.2.10 02:00:c0:00:02:0a 100 1",
		"knows 0 10.5.1.0/24 192.0.2.10 02:00:c0:00:02:0a 100 1", "knows 1 10.5.2.0/24 192.0.2.11 02:00:c0:00:02:0b 100 2", "knows 2 10.5.3.0/24 192.0.2.12 02:00:c0:00:02:0c 100 3",
		"has-route 10.5.1.0/24 0.0.0.0 local", "has-route 10.5.2.0/24 10.5.2.0 remote", "has-route 10.5.3.0/24 10.5.3.0 remote",
		"has-neigh 10.5.2.0 02:00:c0:00:02:0b", "has-neigh 10.5.3.0 02:00:c0:00:02:0c", "has-fdb 02:00:c0:00:02:0b 192.0.2.11", "has-fdb 02:00:c0:00:02:0c 192.0.2.12")
	do("pod 1 web", "err 0 n 168100354 verdict 0 why 0 req 0")
	do("pod 0 cli", "err 0 n 168100098 verdict 0 why 0 req 0")
	do("pods 1", none, "pod web 10.5.2.2")
	do("send 0 "+packet, "err 0 n 1 verdict 13 why 0 req 0")
	do("flight", none, "sent 192.0.2.11 4500004a000040004011b68dc000020ac000020bc5a521180036000008000000000001000200c000020b0200c000020a080045000018000000003f1164c80a0501020a05020201020304")
	do("deliver 0", "err 0 n 0 verdict 9 why 0 req 0", "given 1 10.5.2.2 web 45000018000000003e1165c80a0501020a05020201020304")
	do("send 0 "+lost, "err 0 n 0 verdict 4 why 0 req 0", "given 0 10.5.1.2 cli 4500003400000000400164bd0a0501010a0501020300f8f9000000004500001800000000401165c50a0501020a09000101020304")
	do("send 0 -", "err 0 n 0 verdict 1 why 30 req 0")
	do("counts 0", none, "counts 0 1 0 0 1 0 0 0 0 0 0 0 0 1 0 0 0 0 0 0 0 0")
	do("holder 10.5.3.9", none, given("1")[2])
	do("holder 10.9.0.1", "err 3 n 0 verdict 0 why 0 req 0")
	do("crash 2", none)
	do("view 2", "err 193 n 0 verdict 0 why 0 req 0")
	do("tear 10", none)
	do("tick 1", "err 130 n 0 verdict 0 why 0 req 0")
	do("leases", "err 130 n 0 verdict 0 why 0 req 0")
	do("reopen", "err 0 n 3 verdict 0 why 0 req 0")
	do("leases", append([]string{"err 0 n 3 verdict 0 why 0 req 0"}, given("1")...)...)
	do("tick 100", "err 0 n 100 verdict 0 why 0 req 0")
	do("leases", "err 0 n 6 verdict 0 why 0 req 0")
	plays(t, config(3), script(acts...), script(want...))
}

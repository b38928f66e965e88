package path

import (
	"slices"
	"testing"

	"weft/api"
)

// asks is a call for each verdict, at the host of 10.5.1.0/24 with an MTU of 126, where 10.5.3.0/24 has no neighbour and 10.5.4.0/24 no entry.
func asks() [22]func(p *Path) api.Result {
	send := func(q api.Packet) func(p *Path) api.Result {
		return func(p *Path) api.Result { return p.Send(raw(q)) }
	}
	receive := func(change func(s *sealing)) func(p *Path) api.Result {
		s := forHost(udp(web, cli, 9))
		change(&s)
		return func(p *Path) api.Result { return p.Receive(s.bytes()) }
	}
	return [22]func(p *Path) api.Result{
		api.VBadPacket: func(p *Path) api.Result { return p.Send(nil) },
		api.VBadSrc:    send(udp(0, cli, 9)),
		api.VBadDst:    send(udp(cli, 0, 9)),
		api.VNoRoute:   send(udp(cli, at(9, 9), 9)),
		api.VBroadcast: send(udp(cli, at(1, 255), 9)),
		api.VHost:      send(ping(web, here, 9)),
		api.VTimeOut:   send(udp(cli, web, 1)),
		api.VNoPod:     send(udp(cli, at(1, 9), 9)),
		api.VDelivered: send(udp(web, cli, 9)),
		api.VNoNeigh:   send(udp(web, at(3, 3), 9)),
		api.VNoFdb:     send(udp(cli, at(4, 4), 9)),
		api.VTooBig:    send(withDF(sized(udp(cli, web, 9), 77))),
		api.VSent:      send(sized(udp(cli, web, 9), 500)),
		api.VBadOuter:  func(p *Path) api.Result { return p.Receive(nil) },
		api.VNotMine:   receive(func(s *sealing) { s.outer.Dst++ }),
		api.VBadPort:   receive(func(s *sealing) { s.outer.DstPort++ }),
		api.VBadVNI:    receive(func(s *sealing) { s.outer.VNI++ }),
		api.VBadMAC:    receive(func(s *sealing) { s.frame.Dst[0]++ }),
		api.VBadType:   receive(func(s *sealing) { s.frame.Type++ }),
		api.VBadInner:  receive(func(s *sealing) { s.frame.Body = nil }),
		api.VLoop:      receive(func(s *sealing) { s.frame.Body = raw(udp(cli, web, 9)) }),
	}
}

func countable(t *testing.T) both {
	t.Helper()
	return host(t, 1, 126).does(putVia(at(3, 0), 24, 5), putVia(at(4, 0), 24, 6), putNeigh(6, mac(9)))
}

// Each verdict has its place.
func TestP17_9EachVerdict(t *testing.T) {
	p := countable(t).p
	want := make([]int, 22)
	for round := range 3 {
		for v, ask := range asks() {
			if v == 0 {
				continue
			}
			for range 1 + v%3 {
				if r := ask(p); r.Verdict != v {
					t.Fatalf("P17.3: verdict %d, want %d", r.Verdict, v)
				}
				want[v]++
				if got := p.Counts(); !slices.Equal(got, want) {
					t.Fatalf("P17.9: in round %d behind verdict %d the counts are %v, want %v", round, v, got, want)
				}
			}
		}
	}
	if got := p.Counts(); len(got) != 22 || got[0] != 0 {
		t.Errorf("P17.9: %v", got)
	}
}

// Verdicts that Receive shares with Send are counted together; other calls are not counted.
func TestP17_9BothCalls(t *testing.T) {
	b := countable(t)
	for _, p := range []api.Packet{udp(0, cli, 9), udp(cli, 0, 9), udp(cli, at(9, 9), 9), udp(cli, at(1, 0), 9), udp(cli, here, 9), udp(web, cli, 1), udp(web, at(1, 9), 9), udp(web, cli, 9)} {
		b.each(p, func(outcome) {})
	}
	want := make([]int, 22)
	for _, v := range []int{api.VBadSrc, api.VBadDst, api.VNoRoute, api.VBroadcast, api.VHost, api.VTimeOut, api.VNoPod, api.VDelivered} {
		want[v] = 2
	}
	b.bind("x", cli)
	b.unbind(web)
	b.bound()
	b.k.Flush()
	if got := b.counts(); !slices.Equal(got, want) {
		t.Errorf("P17.9: the counts are %v, want %v", got, want)
	}
	if again := b.counts(); !slices.Equal(again, want) {
		t.Errorf("P17.9: the counts are %v then, want %v", again, want)
	}
}

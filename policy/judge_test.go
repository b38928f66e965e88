package policy

import (
	"fmt"
	"math/rand"
	"testing"

	"weft/api"
)

// P22.4: what becomes of a packet, and which line decides it.

// anyMatch is one of packets that the tests' rules often speak of.
func anyMatch(r *rand.Rand) api.Match {
	hosts := []api.Addr{quad(10, 5, 1, 2), quad(10, 5, 2, 2), quad(10, 5, 9, 2), quad(10, 5, 9, 255), quad(10, 6, 0, 0), 0, 1<<32 - 1, api.Addr(r.Uint32())}
	ports := []uint16{0, 1, 5, 6, 79, 80, 81, 443, 444, 65535, uint16(r.Int())}
	return match(r.Intn(2) == 0, r.Intn(2) == 0, pick(r, hosts...), pick(r, hosts...), pick[byte](r, 0, 1, 5, 6, 6, 7, 16, 17, 17, 18, 255, byte(r.Int())), pick(r, ports...), pick(r, ports...))
}

func TestP22_4EveryAction(t *testing.T) {
	m := inTCP(80)
	for _, way := range []string{"in", "out"} {
		m.Out = way == "out"
		def := "default " + way + " reject"
		taken(t, def, "chain "+way, "accept", "drop").judges(m, api.Accept, 3)
		taken(t, def, "chain "+way, "drop", "accept").judges(m, api.Drop, 3)
		taken(t, "chain "+way, "reject", "accept").judges(m, api.Reject, 2)
		taken(t, def, "chain "+way, "return", "accept").judges(m, api.Reject, 0)
		taken(t, def, "chain "+way, "jump a", "drop", "chain a", "accept").judges(m, api.Accept, 6)
		taken(t, def, "chain "+way, "jump a", "drop", "chain a").judges(m, api.Drop, 4)
		taken(t, def, "chain "+way, "jump a", "drop", "chain a", "return", "accept").judges(m, api.Drop, 4)
		taken(t, def, "chain "+way, "jump a", "chain a", "accept state known").judges(m, api.Reject, 0)
		taken(t, def, "chain "+way).judges(m, api.Reject, 0)
		taken(t, def, "chain a", "accept").judges(m, api.Reject, 0)
		m.Out = !m.Out
		taken(t, def, "chain "+way, "drop").judges(m, api.Accept, 0)
	}
}

// Rules that do not hold are passed over, whatever their action.
func TestP22_4NotHeld(t *testing.T) {
	for _, c := range []string{"from 10.5.2.0/24", "to 10.5.1.0/24", "proto udp", "sport 1-4999", "sport 5001-65535", "dport 81", "state known", "from 10.5.1.0/24 to 10.5.2.0/24 proto tcp sport 5000 dport 80 state known"} {
		for _, action := range []string{"accept", "drop", "return", "jump a"} {
			b := taken(t, "chain in", action+" "+c, "reject", "chain a", "accept").judges(inTCP(80), api.Reject, 3)
			taken(t, "chain in", "jump b", "drop", "chain a", "accept", "chain b", action+" "+c, "reject").judges(inTCP(80), api.Reject, 8)
			b.check()
		}
	}
	for _, c := range []string{"", "from 10.5.1.0/24", "to 10.5.2.2/32", "proto tcp", "proto 6", "sport 5000", "sport 4999-5001", "dport 80-80", "dport 0-65535", "state new", "from 10.5.1.0/24 to 10.5.2.0/24 proto tcp sport 5000 dport 80 state new"} {
		taken(t, "chain in", "accept "+c, "reject").judges(inTCP(80), api.Accept, 2)
		taken(t, "chain in", "drop "+c, "reject").judges(inTCP(80), api.Drop, 2)
		taken(t, "chain in", "return "+c, "reject").judges(inTCP(80), api.Accept, 0)
		taken(t, "chain in", "jump a "+c, "reject", "chain a", "drop").judges(inTCP(80), api.Drop, 5)
	}
}

// Each condition alone of six can fail a rule.
func TestP22_4AllConditions(t *testing.T) {
	b := taken(t, "chain in", "drop from 10.5.1.0/24 to 10.5.2.0/24 proto udp sport 10-20 dport 30-40 state new", "default in reject")
	good := match(false, false, quad(10, 5, 1, 7), quad(10, 5, 2, 7), 17, 15, 35)
	b.judges(good, api.Drop, 2)
	for _, turn := range []func(m *api.Match){
		func(m *api.Match) { m.Tuple.Src = quad(10, 5, 0, 255) },
		func(m *api.Match) { m.Tuple.Src = quad(10, 5, 2, 0) },
		func(m *api.Match) { m.Tuple.Dst = quad(10, 5, 1, 255) },
		func(m *api.Match) { m.Tuple.Dst = quad(10, 5, 3, 0) },
		func(m *api.Match) { m.Tuple.Src, m.Tuple.Dst = m.Tuple.Dst, m.Tuple.Src },
		func(m *api.Match) { m.Tuple.Proto = 6 },
		func(m *api.Match) { m.Tuple.SrcPort = 9 },
		func(m *api.Match) { m.Tuple.SrcPort = 21 },
		func(m *api.Match) { m.Tuple.DstPort = 29 },
		func(m *api.Match) { m.Tuple.DstPort = 41 },
		func(m *api.Match) { m.Tuple.SrcPort, m.Tuple.DstPort = m.Tuple.DstPort, m.Tuple.SrcPort },
		func(m *api.Match) { m.Known = true },
	} {
		m := good
		turn(&m)
		b.judges(m, api.Reject, 0)
	}
	m := good
	m.Out = true
	b.judges(m, api.Accept, 0)
	for _, at := range []uint16{10, 20} {
		m = good
		m.Tuple.SrcPort = at
		b.judges(m, api.Drop, 2)
		m.Tuple.DstPort = at + 20
		b.judges(m, api.Drop, 2)
	}
}

// Conditions on ports never hold where the protocol has none, not even one on all ports.
func TestP22_4PortsOfOtherProtocols(t *testing.T) {
	b := taken(t, "chain in", "drop sport 0-65535", "reject", "chain out", "drop dport 0-65535", "reject")
	for proto := range 256 {
		action, add := api.Reject, 1
		if proto == 6 || proto == 17 {
			action, add = api.Drop, 0
		}
		for _, port := range []uint16{0, 1, 80, 65535} {
			b.judges(match(false, false, 1, 2, byte(proto), port, 0), action, 2+add)
			b.judges(match(true, true, 1, 2, byte(proto), 0, port), action, 5+add)
		}
	}
	b = taken(t, "chain in", "drop proto 1 sport 0-65535", "reject proto icmp", "accept proto 47 dport 0", "drop proto 47")
	b.judges(match(false, false, 1, 2, 1, 5, 5), api.Reject, 3).judges(match(false, false, 1, 2, 47, 0, 0), api.Drop, 5).isDead(2, 4)
}

func TestP22_4ChainsOfChains(t *testing.T) {
	b := taken(t,
		"default in reject", // 1
		"chain in",
		"jump a", // 3
		"drop proto 9",
		"jump c", // 5
		"chain a",
		"accept proto 1", // 7
		"jump b",
		"accept proto 2", // 9
		"chain b",
		"return proto 3", // 11
		"accept proto 4",
		"jump c proto 5", // 13
		"drop proto 3",
		"return", // 15
		"accept proto 2",
		"chain c", // 17
		"accept proto 3",
		"return proto 6", // 19
		"drop proto 6",
		"drop proto 7", // 21
	)
	want := map[byte][2]int{1: {api.Accept, 7}, 2: {api.Accept, 9}, 3: {api.Accept, 18}, 4: {api.Accept, 12}, 5: {api.Reject, 0}, 6: {api.Reject, 0}, 7: {api.Drop, 21}, 8: {api.Reject, 0}, 9: {api.Drop, 4}}
	for proto, w := range want {
		b.judges(match(false, false, 1, 2, proto, 0, 0), w[0], w[1])
	}
	b.isDead(14, 16, 20).check()
}

// A return ends its own chain alone, however deep it is, and in the first one the default decides.
func TestP22_4Returns(t *testing.T) {
	for deep := 1; deep <= 15; deep++ {
		list := []string{"default in reject", "chain in", "jump c1", "drop"}
		for i := 1; i <= deep; i++ {
			list = append(list, fmt.Sprintf("chain c%d", i))
			if i < deep {
				list = append(list, fmt.Sprintf("jump c%d", i+1))
			}
			list = append(list, "return", "accept")
		}
		b := taken(t, list...).judges(inTCP(5), api.Drop, 4)
		b.text()
		list[3] = "return"
		taken(t, append(list, "drop")...).judges(inTCP(5), api.Reject, 0)
		list[len(list)-2] = "jump none"
		list[len(list)-1] = "accept"
		if deep < 14 {
			taken(t, append(list, "chain none", "return")...).judges(inTCP(5), api.Accept, len(list))
		}
	}
	taken(t, "default in drop", "chain in", "return", "accept").judges(inTCP(5), api.Drop, 0)
	taken(t, "default out drop", "chain out", "return state known", "reject").judges(match(true, true, 1, 1, 1, 1, 1), api.Drop, 0).judges(match(true, false, 1, 1, 1, 1, 1), api.Reject, 4)
}

// A chain that two jumps name is gone through twice, with the packet as it is.
func TestP22_4OneChainTwice(t *testing.T) {
	b := taken(t, "chain in", "jump a", "jump a state known", "jump a", "drop", "chain a", "reject proto 5", "return proto 6")
	b.judges(match(false, true, 1, 1, 5, 1, 1), api.Reject, 7).judges(match(false, true, 1, 1, 6, 1, 1), api.Drop, 5).judges(match(false, true, 1, 1, 7, 1, 1), api.Drop, 5)
	// 'in' as a chain of 'out'
	b = taken(t, "default in drop", "default out reject", "chain in", "accept proto 5", "return proto 6", "chain out", "jump in", "drop proto 6")
	b.judges(match(true, false, 1, 1, 5, 0, 0), api.Accept, 4).judges(match(true, false, 1, 1, 6, 0, 0), api.Drop, 8).judges(match(true, false, 1, 1, 7, 0, 0), api.Reject, 0)
	b.judges(match(false, false, 1, 1, 6, 0, 0), api.Drop, 0)
}

// The heaviest policy that may be, gone through to its end.
func TestP22_4LongWay(t *testing.T) {
	list := heavy("in", 256)
	for i, line := range list {
		if line == "drop" {
			list[i] = "drop state known"
		}
	}
	b := taken(t, append(list, "default in reject", "chain out", "jump b")...)
	b.judges(inTCP(5), api.Reject, 0).judges(match(false, true, 1, 1, 1, 1, 1), api.Drop, 2).judges(match(true, true, 1, 1, 1, 1, 1), api.Drop, 2)
	b.judges(match(true, false, 1, 1, 1, 1, 1), api.Accept, 0)
}

// Policies and packets by dice.
func TestP22_4ByDice(t *testing.T) {
	r := dice()
	lines := map[int]int{}
	actions := map[int]int{}
	for range 2500 {
		b, ok := asked(t, anyPolicy(r, 1+r.Intn(24)))
		if !ok {
			continue
		}
		for range 60 {
			action, line := b.judge(anyMatch(r))
			actions[action]++
			lines[min(line, 1)]++
		}
	}
	if lines[0] < 9000 || lines[1] < 9000 || actions[api.Accept] < 9000 || actions[api.Drop] < 9000 || actions[api.Reject] < 9000 {
		t.Errorf("the test's own packets: lines %v, actions %v", lines, actions)
	}
}

// anyPolicy is a policy's text of up to that many rules; few of them are refused.
func anyPolicy(r *rand.Rand, rules int) string {
	names := []string{"in", "out", "a", "b", "c-3"}
	r.Shuffle(len(names), func(i, k int) { names[i], names[k] = names[k], names[i] })
	names = names[:1+r.Intn(len(names))]
	rank := r.Perm(len(names)) // jumps go up, so that there are no loops
	var list []string
	for _, way := range []string{"in", "out"} {
		if r.Intn(3) > 0 {
			list = append(list, "default "+way+" "+pick(r, "accept", "drop", "reject"))
		}
	}
	for i, name := range names {
		list = append(list, "chain "+name)
		for range r.Intn(2 + rules/len(names)) {
			k := r.Intn(len(names))
			action := pick(r, "accept", "drop", "reject", "return", "jump")
			if action == "jump" && rank[k] <= rank[i] && r.Intn(100) > 0 {
				continue
			}
			if action == "jump" {
				action += " " + names[k]
			}
			list = append(list, action+anyConditions(r))
		}
	}
	return lines(list...)
}

// anyConditions is some conditions, each with a blank ahead.
func anyConditions(r *rand.Rand) string {
	prefixes := []string{"0.0.0.0/0", "10.5.0.0/16", "10.5.1.0/24", "10.5.2.0/24", "10.5.9.0/25", "10.5.9.128/25", "10.5.2.2/32", "128.0.0.0/1", "255.255.255.255/32", "0.0.0.0/8"}
	ports := []string{"0", "80", "79-80", "80-443", "0-65535", "444-65535", "65535", "0-79", "5-6"}
	all := []string{
		" from " + pick(r, prefixes...), " to " + pick(r, prefixes...),
		" proto " + pick(r, "tcp", "udp", "icmp", "6", "17", "5", "0", "255", "16"),
		" sport " + pick(r, ports...), " dport " + pick(r, ports...), " state " + pick(r, "new", "known"),
	}
	r.Shuffle(len(all), func(i, k int) { all[i], all[k] = all[k], all[i] })
	s := ""
	for _, c := range all[:pick(r, 0, 1, 1, 1, 2, 2, 3, 4, 6)] {
		s += c
	}
	return s
}

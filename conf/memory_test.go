package conf

import (
	"reflect"
	"slices"
	"sync"
	"testing"

	"weft/api"
)

const someText = `{"a":[1,"x",{"b":null}],"c":"\u0041"}`

func TestP2_6ParseIsNewMemory(t *testing.T) {
	one, _, _ := Parse(someText)
	two, _, _ := Parse(someText)
	for i := range one {
		one[i] = node(9, "z", "z", 9)
	}
	_ = append(one, node(9, "z", "z", 9))
	three, _, _ := Parse(someText)
	if !slices.Equal(two, three) || !slices.Equal(two, modelNodes(t, someText)) {
		t.Errorf("P2.6: Parse gives out memory twice: %v, %v", two, three)
	}
}

func TestP2_6PrintKeepsItsNodes(t *testing.T) {
	nodes, _, _ := Parse(someText)
	// Spare room behind the list, that nobody may write into.
	room := append(slices.Clone(nodes), node(9, "z", "z", 9), node(9, "y", "y", 9))
	before := slices.Clone(room)
	for n := range len(room) {
		first, err := Print(room[:n])
		again, errAgain := Print(room[:n:n])
		if first != again || err != errAgain || !slices.Equal(room, before) {
			t.Fatalf("P2.6: Print of %d nodes: %q, %d and %q, %d; the nodes are %v", n, first, err, again, errAgain, room)
		}
	}
}

func TestP2_6ConfigIsNotKept(t *testing.T) {
	room := []api.Reserve{{Host: 0, Subnet: subnet(10, 0, 1, 0, 24)}, {Host: 1, Subnet: subnet(10, 0, 0, 0, 24)}, {Host: 7, Subnet: api.Prefix{Addr: 7, Len: 7}}}
	before := slices.Clone(room)
	c := changed(func(c *api.Config) { c.Reserved = room[:2] })
	text, err := Save(c)
	if err != api.OK || Check(c) != api.OK || !slices.Equal(room, before) {
		t.Errorf("P2.6: Save = %q, %d; reserved is %v", text, err, room)
	}
	one, _ := Load(text)
	two, _ := Load(text)
	one.Reserved[0].Host = 5
	_ = append(one.Reserved, api.Reserve{Host: 6})
	three, _ := Load(text)
	if !reflect.DeepEqual(two, three) || !same(two, c) {
		t.Errorf("P2.6: Load gives out memory twice: %+v, %+v", two, three)
	}
}

func TestP2_6ArgumentsAlone(t *testing.T) {
	// The same calls, beside one another and in any order, behind calls that were refused.
	var group sync.WaitGroup
	for i := range 8 {
		group.Go(func() {
			for j := range 200 {
				switch (i + j) % 4 {
				case 0:
					checkFault(t, `[1,{"a":1,"a"`, 10, api.ErrKey)
					checkNodes(t, `{"a":1}`, node(7, "", "", 1), node(4, "a", "1", 0))
				case 1:
					refuse(t, api.ErrKey, node(7, "", "", 2), node(1, "a", "", 0), node(1, "a", "", 0))
					checkPrint(t, `{"a":null}`, api.OK, node(7, "", "", 1), node(1, "a", "", 0))
				case 2:
					checkLoad(t, "{"+shortest+`,"vni":2,"ttl":9,"x":1}`, api.Config{}, api.ErrKey)
					checkLoad(t, "{"+shortest+"}", plain(), api.OK)
				case 3:
					if text, err := Save(plain()); text != saved || err != api.OK {
						t.Errorf("P2.6: Save = %s, %d", text, err)
					}
				}
			}
		})
	}
	group.Wait()
}

func TestP0_1AnyArguments(t *testing.T) {
	roll := dice()
	for range 20000 {
		bytes := make([]byte, roll.Intn(40))
		for i := range bytes {
			bytes[i] = telling[roll.Intn(len(telling))]
		}
		text := string(bytes)
		if nodes, place, err := Parse(text); err == api.OK && place != 0 || err != api.OK && (len(nodes) != 0 || place > len(text)) {
			t.Errorf("P0.2: Parse(%q) = %v, %d, %d", text, nodes, place, err)
		}
		if c, err := Load(text); err == api.OK || !same(c, api.Config{}) {
			t.Errorf("P0.2: Load(%q) = %+v, %d", text, c, err)
		}
	}
}

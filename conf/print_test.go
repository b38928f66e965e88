package conf

import (
	"fmt"
	"math"
	"math/rand"
	"regexp"
	"slices"
	"strings"
	"testing"
	"unicode/utf8"

	"weft/api"
)

var numberForm = regexp.MustCompile(`\A-?(?:0|[1-9][0-9]*)(?:\.[0-9]+)?(?:[eE][+-]?[0-9]+)?\z`)

func checkPrint(t *testing.T, want string, wantErr api.Errno, nodes ...api.Node) {
	t.Helper()
	if text, err := Print(nodes); text != want || err != wantErr {
		t.Errorf("P2.2: Print(%s) = %.80q, %d, want %.80q, %d", show(nodes), text, err, want, wantErr)
	}
}

func refuse(t *testing.T, want api.Errno, nodes ...api.Node) {
	t.Helper()
	checkPrint(t, "", want, nodes...)
}

func TestP2_2Values(t *testing.T) {
	checkPrint(t, "null", api.OK, node(1, "", "", 0))
	checkPrint(t, "false", api.OK, node(2, "", "", 0))
	checkPrint(t, "true", api.OK, node(3, "", "", 0))
	checkPrint(t, "-0.50E+01", api.OK, node(4, "", "-0.50E+01", 0))
	checkPrint(t, `""`, api.OK, node(5, "", "", 0))
	checkPrint(t, "[]", api.OK, node(6, "", "", 0))
	checkPrint(t, "{}", api.OK, node(7, "", "", 0))
	checkPrint(t, `{"k":1e5}`, api.OK, node(7, "", "", 1), node(4, "k", "1e5", 0))
	checkPrint(t, `{"b":[1,[],{}],"":{"b":"x"},"a":null}`, api.OK, node(7, "", "", 3), node(6, "b", "", 3), node(4, "", "1", 0), node(6, "", "", 0), node(7, "", "", 0), node(7, "", "", 1), node(5, "b", "x", 0), node(1, "a", "", 0))
}

func TestP2_2EveryCharacter(t *testing.T) {
	short := map[rune]string{'"': `\"`, '\\': `\\`, 8: `\b`, 12: `\f`, 10: `\n`, 13: `\r`, 9: `\t`}
	for c := rune(0); c <= utf8.MaxRune; c++ {
		if !utf8.ValidRune(c) {
			continue
		}
		want := string(c)
		if c < 0x20 {
			want = fmt.Sprintf(`\u%04x`, c)
		}
		if s, ok := short[c]; ok {
			want = s
		}
		text := "x" + string(c) + "y"
		checkPrint(t, `"x`+want+`y"`, api.OK, node(5, "", text, 0))
		if c < 0x300 {
			checkPrint(t, `{"x`+want+`y":0}`, api.OK, node(7, "", "", 1), node(4, text, "0", 0))
		}
	}
}

func TestP2_2Numbers(t *testing.T) {
	for _, seed := range []string{"0", "-12.50", "10e+5", "0.0E-0", ""} {
		for _, s := range neighbours(seed) {
			if numberForm.MatchString(s) {
				checkPrint(t, s, api.OK, node(4, "", s, 0))
			} else {
				refuse(t, api.ErrValue, node(4, "", s, 0))
			}
		}
	}
}

func TestP2_2Counts(t *testing.T) {
	refuse(t, api.ErrSyntax)
	if text, err := Print([]api.Node{}); text != "" || err != api.ErrSyntax {
		t.Errorf("P2.2: no node: %q, %d", text, err)
	}
	full := []api.Node{node(6, "", "", 1023)}
	for range 1023 {
		full = append(full, node(4, "", "0", 0))
	}
	checkPrint(t, zeros(1023), api.OK, full...)
	full[0].Size = 1024
	refuse(t, api.ErrSyntax, full...)
	refuse(t, api.ErrNodes, append(full, node(4, "", "0", 0))...)
	refuse(t, api.ErrNodes, slices.Repeat([]api.Node{node(99, "x", "x", -1)}, 1025)...)
	refuse(t, api.ErrKind, slices.Repeat([]api.Node{node(99, "x", "x", -1)}, 1024)...)
}

func TestP2_2Whole(t *testing.T) {
	refuse(t, api.ErrSyntax, node(6, "", "", 1))
	refuse(t, api.ErrSyntax, node(7, "", "", 1))
	refuse(t, api.ErrSyntax, node(6, "", "", math.MaxInt))
	refuse(t, api.ErrSyntax, node(7, "", "", math.MaxInt), node(6, "a", "", math.MaxInt), node(6, "", "", math.MaxInt))
	refuse(t, api.ErrSyntax, node(1, "", "", 0), node(1, "", "", 0))
	refuse(t, api.ErrSyntax, node(6, "", "", 0), node(99, "", "", 0))
	refuse(t, api.ErrSyntax, node(6, "", "", 1), node(6, "", "", 0), node(1, "", "", 0))
	// A fault of a later node goes ahead of a value that is not whole, and a value that is not whole ahead of a long text.
	refuse(t, api.ErrKind, node(6, "", "", 9), node(0, "", "", 0))
	refuse(t, api.ErrSyntax, node(6, "", "", 2), node(5, "", repeat("x", 20000), 0))
	refuse(t, api.ErrSyntax, node(5, "", repeat("x", 20000), 0), node(1, "", "", 0))
	refuse(t, api.ErrText, node(6, "", "", 2), node(5, "", repeat("x", 20000), 0), node(5, "", "\xff", 0))
}

func TestP2_2Kinds(t *testing.T) {
	for _, kind := range []int{0, 8, -1, 99, math.MinInt, math.MaxInt, 1 << 32, 1<<32 + 1} {
		refuse(t, api.ErrKind, node(kind, "", "", 0))
		refuse(t, api.ErrKind, node(kind, "x\xff", "y\xff", -1))
		refuse(t, api.ErrKind, node(6, "", "", 1), node(kind, "x", "y", 7))
	}
}

func TestP2_2Fields(t *testing.T) {
	texts := [8]string{4: "0"}
	for kind := 1; kind <= 7; kind++ {
		text := texts[kind]
		refuse(t, api.ErrValue, node(kind, "", text, -1))
		refuse(t, api.ErrValue, node(kind, "", text, math.MinInt))
		refuse(t, api.ErrValue, node(kind, "k", text, 0))
		refuse(t, api.ErrValue, node(kind, "\xff", text, 0))
		refuse(t, api.ErrValue, node(6, "", "", 1), node(kind, "k", text, 0))
		if kind <= 5 {
			refuse(t, api.ErrValue, node(kind, "", text, 1))
			refuse(t, api.ErrValue, node(kind, "", text, math.MaxInt))
		}
		if kind != 4 && kind != 5 {
			refuse(t, api.ErrValue, node(kind, "", "x", 0))
			refuse(t, api.ErrValue, node(kind, "", "\xff", 0))
		}
	}
	refuse(t, api.ErrValue, node(4, "", "\xff", 0))
	refuse(t, api.ErrValue, node(5, "", "\xff", 1))
}

func TestP2_2Text(t *testing.T) {
	for _, s := range []string{"\xff", "a\x80", "\xc3", "\xc0\x80", "\xed\xa0\x80", "\xed\xbf\xbf", "\xf4\x90\x80\x80", "\xe2\x82", "\xf8\x88\x80\x80\x80"} {
		refuse(t, api.ErrText, node(5, "", s, 0))
		refuse(t, api.ErrText, node(7, "", "", 1), node(1, s, "", 0))
		refuse(t, api.ErrText, node(7, "", "", 1), node(6, s, "", 0))
	}
	checkPrint(t, "\"\ufffd\"", api.OK, node(5, "", "\ufffd", 0))
}

func TestP2_2Keys(t *testing.T) {
	refuse(t, api.ErrKey, node(7, "", "", 2), node(1, "a", "", 0), node(1, "a", "", 0))
	refuse(t, api.ErrKey, node(7, "", "", 2), node(1, "", "", 0), node(1, "", "", 0))
	refuse(t, api.ErrKey, node(7, "", "", 3), node(7, "a", "", 1), node(1, "b", "", 0), node(1, "a", "", 0))
	refuse(t, api.ErrText, node(7, "", "", 2), node(1, "a", "", 0), node(5, "a", "\xff", 0))
	refuse(t, api.ErrValue, node(7, "", "", 2), node(1, "a", "", 0), node(4, "a", "", 0))
	checkPrint(t, `[{"a":{"a":null}},{"a":[]}]`, api.OK, node(6, "", "", 2), node(7, "", "", 1), node(7, "a", "", 1), node(1, "a", "", 0), node(7, "", "", 1), node(6, "a", "", 0))
}

func TestP2_2Deep(t *testing.T) {
	arrays := slices.Repeat([]api.Node{node(6, "", "", 1)}, 16)
	objects := append([]api.Node{node(7, "", "", 1)}, slices.Repeat([]api.Node{node(7, "k", "", 1)}, 15)...)
	checkPrint(t, repeat("[", 16)+"0"+repeat("]", 16), api.OK, append(arrays, node(4, "", "0", 0))...)
	checkPrint(t, repeat(`{"k":`, 16)+"0"+repeat("}", 16), api.OK, append(objects, node(4, "k", "0", 0))...)
	checkPrint(t, repeat("[", 15)+"[]"+repeat("]", 15), api.OK, append(slices.Clone(arrays[:15]), node(6, "", "", 0))...)
	refuse(t, api.ErrDeep, append(arrays, node(6, "", "", 0))...)
	refuse(t, api.ErrDeep, append(arrays, node(7, "", "", 0))...)
	refuse(t, api.ErrDeep, append(objects, node(6, "k", "", 1))...)
	refuse(t, api.ErrValue, append(arrays, node(6, "k", "", 0))...)
	refuse(t, api.ErrText, append(objects, node(6, "\xff", "", 1))...)
	refuse(t, api.ErrSyntax, arrays...)
	two := append(slices.Clone(objects[:15]), node(7, "k", "", 2), node(1, "k", "", 0), node(6, "k", "", 0))
	refuse(t, api.ErrKey, two...)
	two[len(two)-1].Key = "l"
	refuse(t, api.ErrDeep, two...)
}

func TestP2_2Long(t *testing.T) {
	checkPrint(t, `"`+repeat("x", 16382)+`"`, api.OK, node(5, "", repeat("x", 16382), 0))
	refuse(t, api.ErrLong, node(5, "", repeat("x", 16383), 0))
	checkPrint(t, repeat("9", 16384), api.OK, node(4, "", repeat("9", 16384), 0))
	refuse(t, api.ErrLong, node(4, "", repeat("9", 16385), 0))
	checkPrint(t, `"`+repeat(`\n`, 8191)+`"`, api.OK, node(5, "", repeat("\n", 8191), 0))
	refuse(t, api.ErrLong, node(5, "", repeat("\n", 8191)+"x", 0))
	checkPrint(t, `"`+repeat(`\u0001`, 2730)+`xx"`, api.OK, node(5, "", repeat("\x01", 2730)+"xx", 0))
	refuse(t, api.ErrLong, node(5, "", repeat("\x01", 2731), 0))
	checkPrint(t, `{"`+repeat("k", 16375)+`":null}`, api.OK, node(7, "", "", 1), node(1, repeat("k", 16375), "", 0))
	refuse(t, api.ErrLong, node(7, "", "", 1), node(1, repeat("k", 16376), "", 0))
	checkPrint(t, "["+repeat("9", 16382)+"]", api.OK, node(6, "", "", 1), node(4, "", repeat("9", 16382), 0))
	refuse(t, api.ErrLong, node(6, "", "", 1), node(4, "", repeat("9", 16383), 0))
	refuse(t, api.ErrLong, node(6, "", "", 2), node(4, "", repeat("9", 16382), 0), node(6, "", "", 0))
	// Many nodes that share one long text: it is told that they are too long, not written.
	shared := slices.Repeat([]api.Node{node(5, "", repeat("x", 1<<20), 0)}, 1024)
	shared[0] = node(6, "", "", 1023)
	refuse(t, api.ErrLong, shared...)
	shared[1023].Kind = 0
	refuse(t, api.ErrKind, shared...)
}

// modelPrint is what P2.2 says, node by node, with a list of the objects and arrays that want more.
func modelPrint(nodes []api.Node) (string, api.Errno) {
	type level struct {
		left   int
		object bool
		keys   []string
	}
	var open []level
	text := ""
	for i, n := range nodes {
		for len(open) > 0 && open[len(open)-1].left == 0 {
			open = open[:len(open)-1]
		}
		if i > 0 && len(open) == 0 {
			return "", api.ErrSyntax
		}
		var in level
		if len(open) > 0 {
			in = open[len(open)-1]
			open[len(open)-1].left--
			open[len(open)-1].keys = append(in.keys, n.Key)
		}
		switch {
		case n.Kind < 1 || n.Kind > 7:
			return "", api.ErrKind
		case n.Size < 0, n.Size != 0 && n.Kind <= 5, n.Text != "" && n.Kind != 4 && n.Kind != 5, n.Key != "" && !in.object, n.Kind == 4 && !numberForm.MatchString(n.Text):
			return "", api.ErrValue
		case !utf8.ValidString(n.Key), n.Kind == 5 && !utf8.ValidString(n.Text):
			return "", api.ErrText
		case in.object && slices.Contains(in.keys, n.Key):
			return "", api.ErrKey
		case n.Kind >= 6 && len(open) >= 16:
			return "", api.ErrDeep
		}
		text += fmt.Sprintf("%d %q %q %d;", n.Kind, n.Key, n.Text, n.Size)
		if n.Kind >= 6 {
			open = append(open, level{left: n.Size, object: n.Kind == 7})
		}
	}
	if len(nodes) == 0 || slices.ContainsFunc(open, func(l level) bool { return l.left > 0 }) {
		return "", api.ErrSyntax
	}
	return text, api.OK
}

func told(nodes []api.Node) string {
	var b strings.Builder
	for _, n := range nodes {
		fmt.Fprintf(&b, "%d %q %q %d;", n.Kind, n.Key, n.Text, n.Size)
	}
	return b.String()
}

// checkPrintModel holds Print to the model, and Parse to Print.
func checkPrintModel(t *testing.T, nodes []api.Node) {
	t.Helper()
	want, wantErr := modelPrint(nodes)
	text, err := Print(nodes)
	if err != wantErr || err != api.OK && text != "" {
		t.Errorf("P2.2: Print(%s) = %.80q, %d, want %d", show(nodes), text, err, wantErr)
	}
	if err != api.OK {
		return
	}
	back, place, err := Parse(text)
	if told(back) != want || place != 0 || err != api.OK {
		t.Errorf("P2.2: Parse(Print(%s)) = %s, %d, %d", show(nodes), show(back), place, err)
	}
}

func TestP2_2EveryShortList(t *testing.T) {
	some := []api.Node{
		node(1, "", "", 0), node(1, "a", "", 0), node(1, "b", "", 0), node(1, "\xff", "", 0), node(1, "", "x", 0), node(1, "", "", 1),
		node(4, "", "1", 0), node(4, "a", "01", 0), node(5, "a", "\"", 0), node(5, "b", "\xff", 0), node(5, "", "", -1),
		node(6, "", "", 0), node(6, "", "", 1), node(6, "a", "", 2), node(6, "", "", -1),
		node(7, "", "", 0), node(7, "", "", 1), node(7, "", "", 2), node(7, "a", "", 2), node(0, "a", "", 0), node(8, "", "x", -1),
	}
	checkPrintModel(t, nil)
	for _, a := range some {
		checkPrintModel(t, []api.Node{a})
		for _, b := range some {
			checkPrintModel(t, []api.Node{a, b})
			for _, c := range some {
				checkPrintModel(t, []api.Node{a, b, c})
				for _, d := range some {
					checkPrintModel(t, []api.Node{a, b, c, d})
				}
			}
		}
	}
}

// grow adds a value that the dice make up, with its parts.
func grow(roll *rand.Rand, nodes []api.Node, key string, deep int) []api.Node {
	texts := []string{"", "a", "\x00", "\"\\/\b\f\n\r\t\x1f\x7f", "\u00e9\u20ac\U0001f600\ufffd\u2028", "0", "null"}
	numbers := []string{"0", "-0", "12", "1.50", "1e5", "-2.5E-10"}
	kind := 1 + roll.Intn(7)
	if deep == 16 {
		kind = 1 + roll.Intn(5)
	}
	n := node(kind, key, "", 0)
	switch kind {
	case 4:
		n.Text = numbers[roll.Intn(len(numbers))]
	case 5:
		n.Text = texts[roll.Intn(len(texts))]
	case 6, 7:
		n.Size = roll.Intn(6)
		if deep > 4 {
			n.Size = roll.Intn(2)
		}
	}
	nodes = append(nodes, n)
	for i := range n.Size {
		key := ""
		if kind == 7 {
			key = fmt.Sprintf("%s%d", texts[roll.Intn(len(texts))], i)
		}
		nodes = grow(roll, nodes, key, deep+1)
	}
	return nodes
}

func TestP2_2RoundOfNodes(t *testing.T) {
	roll := dice()
	for range 3000 {
		nodes := grow(roll, nil, "", 0)
		if len(nodes) > 1024 {
			continue
		}
		checkPrintModel(t, nodes)
		at := roll.Intn(len(nodes))
		spoilt := slices.Clone(nodes)
		switch roll.Intn(5) {
		case 0:
			spoilt[at].Size += roll.Intn(3) - 1
		case 1:
			spoilt[at].Kind = roll.Intn(9)
		case 2:
			spoilt[at].Key = spoilt[roll.Intn(len(nodes))].Key
		case 3:
			spoilt = slices.Delete(spoilt, at, at+1)
		case 4:
			spoilt = slices.Insert(spoilt, at, node(1, "", "", 0))
		}
		checkPrintModel(t, spoilt)
	}
}

func TestP2_2RoundOfText(t *testing.T) {
	for _, text := range []string{
		` [1, {"a":"x"}] `, `"\u0041\/\u000a\u001F\u007f\u0022\u005c"`, `"\ud83d\ude00"`, "{\"\\u00e9\":\"\u00e9\"}", "[ ]", "{ }", "[ 1.0 , 1E5 ]",
		zeros(1023), repeat("[", 16) + repeat("]", 16), `"` + repeat("x", 16382) + `"`, `"` + repeat(`\u0001`, 2730) + `\n"`, repeat(" ", 16383) + "0", "\"" + repeat("\x7f", 16382) + "\"", "\"" + repeat("/", 16382) + "\"",
	} {
		nodes, _, err := Parse(text)
		if err != api.OK {
			t.Fatalf("P2.1: Parse(%.80q): %d", text, err)
		}
		short, err := Print(nodes)
		if err != api.OK || len(short) > len(text) {
			t.Errorf("P2.2: Print(Parse(%.80q)) = %.80q, %d", text, short, err)
		}
		if again, _, err := Parse(short); !slices.Equal(again, nodes) || err != api.OK {
			t.Errorf("P2.2: Parse(Print(Parse(%.80q))) = %s, %d", text, show(again), err)
		}
	}
}

package conf

import (
	"fmt"
	"slices"
	"strings"
	"testing"
	"unicode/utf8"

	"weft/api"
)

func checkFault(t *testing.T, text string, at int, want api.Errno) {
	t.Helper()
	if nodes, place, err := Parse(text); len(nodes) != 0 || place != at || err != want {
		t.Errorf("P2.1: Parse(%.80q) = %d nodes, %d, %d, want %d, %d", text, len(nodes), place, err, at, want)
	}
}

func checkNodes(t *testing.T, text string, want ...api.Node) {
	t.Helper()
	if nodes, place, err := Parse(text); !slices.Equal(nodes, want) || place != 0 || err != api.OK {
		t.Errorf("P2.1: Parse(%.80q) = %s, %d, %d, want %s", text, show(nodes), place, err, show(want))
	}
}

// checkModel holds Parse to the model, at a text of any kind.
func checkModel(t *testing.T, text string) {
	t.Helper()
	at, want := modelParse(text)
	if want == api.OK {
		checkNodes(t, text, modelNodes(t, text)...)
	} else {
		checkFault(t, text, at, want)
	}
}

func TestP2_1Values(t *testing.T) {
	checkNodes(t, "null", node(api.KNull, "", "", 0))
	checkNodes(t, "false", node(api.KFalse, "", "", 0))
	checkNodes(t, "true", node(api.KTrue, "", "", 0))
	checkNodes(t, `"x"`, node(api.KString, "", "x", 0))
	checkNodes(t, "[]", node(api.KArray, "", "", 0))
	checkNodes(t, "{}", node(api.KObject, "", "", 0))
	checkNodes(t, " \t\n\r[ \t\n\r] \t\n\r", node(api.KArray, "", "", 0))
	checkNodes(t, " [1, {\"a\":\"x\"}] ", node(6, "", "", 2), node(4, "", "1", 0), node(7, "", "", 1), node(5, "a", "x", 0))
	checkNodes(t, "\r{\n\"a\"\t: [ ] ,\"b\":\n{ } }", node(7, "", "", 2), node(6, "a", "", 0), node(7, "b", "", 0))
	checkNodes(t, `[[[1],2],{"k":[{"":null}]},3]`, node(6, "", "", 3),
		node(6, "", "", 2), node(6, "", "", 1), node(4, "", "1", 0), node(4, "", "2", 0),
		node(7, "", "", 1), node(6, "k", "", 1), node(7, "", "", 1), node(1, "", "", 0), node(4, "", "3", 0))
}

func TestP2_1Numbers(t *testing.T) {
	for _, s := range []string{"0", "-0", "7", "10", "1234567890", "-12", "0.0", "0.5", "-0.50", "10.25", "0e0", "0E0", "1e5", "1E+5", "1e-5", "1e007", "-1.25e+01", "100000000000000000000000000000.5E-999999999", repeat("9", 16384)} {
		checkNodes(t, s, node(api.KNumber, "", s, 0))
	}
	for s, at := range map[string]int{
		"01": 1, "00": 1, "-01": 2, "-": 1, "--1": 1, "-x": 1, "+1": 0, ".5": 0, "1.": 2, "1.e1": 2, "1.x": 2, "1..2": 2, "-.5": 1, "1.2.3": 3, "1e": 2, "1e+": 3, "1e-": 3,
		"1e+-1": 3, "1ex": 2, "1e1.5": 3, "1e1e1": 3, "0x10": 1, "1_0": 1, "1a": 1, "Infinity": 0, "NaN": 0, "-Infinity": 1, "1 2": 2, "1,": 1, "٣": 0,
	} {
		checkFault(t, s, at, api.ErrSyntax)
	}
}

func TestP2_1GrammarFaults(t *testing.T) {
	for s, at := range map[string]int{
		"": 0, " ": 1, " \t\n\r": 4, "x": 0, "n": 1, "nul": 3, "nulL": 3, "Null": 0, "TRUE": 0, "tru3": 3, "tru": 3, "truex": 4, "fals": 4, "falsy": 4, "nulll": 4,
		"[": 1, "[ ": 2, "]": 0, "[}": 1, "[1": 2, "[1 ": 3, "[1,": 3, "[1,]": 3, "[1, ]": 4, "[,": 1, "[,1]": 1, "[1 2]": 3, "[1,,2]": 3, "[1;2]": 2, "[1}": 2, "[]]": 2, "[][]": 2, "[0,01]": 4, "[1:2]": 2,
		"{": 1, "}": 0, "{ ": 2, "{]": 1, "{1:2}": 1, "{a:1}": 1, "{null:1}": 1, "{,}": 1, `{"a"`: 4, `{"a" `: 5, `{"a"}`: 4, `{"a" 1}`: 5, `{"a",1}`: 4, `{"a":`: 5, `{"a":}`: 5, `{"a"::1}`: 5, `{"a":1`: 6, `{"a":1,`: 7, `{"a":1,}`: 7,
		`{"a":1 "b":2}`: 7, `{"a":1,,"b":2}`: 7, `{"a":1]`: 6, `{"a":1}}`: 7, `{"a":1}1`: 7, `{[]:1}`: 1, `{"a":1,2`: 7,
		"\xef\xbb\xbf1": 0, "1\x00": 1, "\x00": 0, "[\x00]": 1, "/**/1": 0, "1//": 1, "[1 , /": 5, "#": 0, "'a'": 0, "\v1": 0, "\f1": 0, "\u00a01": 0, "\u20281": 0, "1\x0b": 1, "[1\x85]": 2,
	} {
		checkFault(t, s, at, api.ErrSyntax)
	}
}

func TestP2_1Strings(t *testing.T) {
	for s, want := range map[string]string{
		`""`: "", `"a"`: "a", "\" \x7f~\"": " \x7f~", `"\"\\\/\b\f\n\r\t"`: "\"\\/\b\f\n\r\t", `"/"`: "/", `"\u0000"`: "\x00", `"\u001f"`: "\x1f", `"\u0041\u00e9\u20AC\uFFFF\ufffd"`: "A\u00e9\u20ac\uffff\ufffd",
		"\"\u00e9\u20ac\ufffd\uffff\U00010000\U0010ffff\"": "\u00e9\u20ac\ufffd\uffff\U00010000\U0010ffff",
		`"\ud83d\ude00"`: "\U0001f600", `"\uD83D\uDE00\uD800\uDC00\udbff\udfff"`: "\U0001f600\U00010000\U0010ffff", `"\ud7ff\ue000"`: "\ud7ff\ue000", `"\\ud83d"`: `\ud83d`, `"\\\\u0041"`: `\\u0041`, `"\u005cn"`: `\n`, `"\u0022"`: `"`,
	} {
		checkNodes(t, s, node(api.KString, "", want, 0))
		checkNodes(t, "{"+s+":null}", node(api.KObject, "", "", 1), node(api.KNull, want, "", 0))
	}
	for s, at := range map[string]int{
		`"`: 1, `"a`: 2, `"\`: 2, `"\"`: 3, `"a\`: 3, `"\x"`: 2, `"\a"`: 2, `"\v"`: 2, `"\0"`: 2, `"\'"`: 2, `"\U0041"`: 2, `"\B"`: 2, `"\ "`: 2, "\"\\\n\"": 2, "\"\\\x00\"": 2, "\"\\\xc3\xa9\"": 2,
		`"\u`: 3, `"\u"`: 3, `"\u1"`: 4, `"\u12"`: 5, `"\u123"`: 6, `"\u123`: 6, `"\u12G4"`: 5, `"\ug000"`: 3, `"\u000/"`: 6, `"\u000:"`: 6, "\"\\u000`\"": 6, `"\u000@"`: 6, `"\u+123"`: 3, `"\u{41}"`: 3, `"\u 041"`: 3,
		"\"\n\"": 1, "\"a\x00\"": 2, "\"\x1f\"": 1, "\"\t\"": 1, "\"a\rb\"": 2, `"a"b"`: 3, `"a""b"`: 3,
	} {
		checkFault(t, s, at, api.ErrSyntax)
		checkFault(t, "{"+s, at+1, api.ErrSyntax)
	}
}

func TestP2_1EveryEscape(t *testing.T) {
	for c := range 0x10000 {
		for _, form := range []string{`"x\u%04x"`, `"x\u%04X"`} {
			text := fmt.Sprintf(form, c)
			if c >= 0xd800 && c <= 0xdfff {
				checkFault(t, text, 2, api.ErrText)
			} else {
				checkNodes(t, text, node(api.KString, "", "x"+string(rune(c)), 0))
			}
		}
	}
	for c := rune(0x10000); c <= 0x10ffff; c += 61 {
		text := fmt.Sprintf(`"\u%04x\u%04x"`, 0xd800+(c-0x10000)/1024, 0xdc00+(c-0x10000)%1024)
		checkNodes(t, text, node(api.KString, "", string(c), 0))
	}
}

func TestP2_1Surrogates(t *testing.T) {
	for s, at := range map[string]int{
		`"\ud83d"`: 1, `"\ud83dx"`: 1, `"\ud83d\n"`: 1, `"\ud83d\u0041"`: 1, `"\ud83d\ud83d\ude00"`: 1, `"\ud83d\\ude00"`: 1, `"\ud83d \ude00"`: 1, `"x\ude00"`: 2, `"\ude00\ud83d"`: 1, `"\ud83d\ude00\ude00"`: 13, `"\ud83d\ude00\ud83d"`: 13,
		`"\ud800\ue000"`: 1, `"\ud800\udbff"`: 1, `"\udc00"`: 1, `"\udfff"`: 1, `"\udbff"`: 1, "\"\\ud83d\xed\xb8\x80\"": 1, `"\ud83d\"\ude00"`: 1, `"\ud83d","\ude00"`: 1,
		`["\ud83d", "\uZ"]`: 2, `["a","b\ud83d"]`: 7, `{"\ud83d":"\uZ"}`: 2, `{"a":"\ude00"}`: 6,
	} {
		checkFault(t, s, at, api.ErrText)
	}
	edges := []string{`\u0041`, `\ud7ff`, `\ud800`, `\uDBFF`, `\udc00`, `\uDfff`, `\ue000`, `\n`, "x", ""}
	for _, a := range edges {
		for _, b := range edges {
			for _, c := range edges {
				checkModel(t, `"`+a+b+c+`"`)
			}
		}
	}
}

func TestP2_1UTF8(t *testing.T) {
	checkBytes := func(inside string) {
		at := 0
		for at < len(inside) {
			c, width := utf8.DecodeRuneInString(inside[at:])
			if c == utf8.RuneError && width == 1 {
				checkFault(t, `["`+inside+`"]`, at+2, api.ErrText)
				return
			}
			at += width
		}
		checkNodes(t, `["`+inside+`"]`, node(6, "", "", 1), node(5, "", inside, 0))
	}
	edges := []byte{0x41, 0x7f, 0x80, 0x8f, 0x90, 0x9f, 0xa0, 0xbf, 0xc0, 0xc1, 0xc2, 0xdf, 0xe0, 0xe1, 0xec, 0xed, 0xee, 0xef, 0xf0, 0xf1, 0xf3, 0xf4, 0xf5, 0xf7, 0xf8, 0xfe, 0xff}
	for _, a := range edges {
		checkBytes(string([]byte{a}))
		for _, b := range edges {
			checkBytes(string([]byte{a, b}))
			for _, c := range edges {
				checkBytes(string([]byte{a, b, c}))
				for _, d := range edges {
					checkBytes(string([]byte{a, b, c, d}))
				}
			}
		}
	}
}

func TestP2_1FormAheadOfText(t *testing.T) {
	checkFault(t, `["\ud83d\uZ"]`, 10, api.ErrSyntax)
	checkFault(t, "\"\xff", 2, api.ErrSyntax)
	checkFault(t, "\"\xff\n\"", 2, api.ErrSyntax)
	checkFault(t, "\"\xff\\x\"", 3, api.ErrSyntax)
	checkFault(t, "\"\xff\"x", 1, api.ErrText)
	checkFault(t, "[\"\xff\",]", 2, api.ErrText)
	checkFault(t, "\"\xff\\ude00\"", 1, api.ErrText)
	checkFault(t, "\"\\ude00\xff\"", 1, api.ErrText)
	checkFault(t, "{\"\xff\" x", 2, api.ErrText)
	checkFault(t, "[x,\"\xff\"]", 1, api.ErrSyntax)
}

func TestP2_1Keys(t *testing.T) {
	for s, at := range map[string]int{
		`{"a":1,"a":2}`: 7, `{"a":1,"\u0061":2}`: 7, `{"\u0061":1,"a":2}`: 12, `{"a":1,"a"`: 7, `{"a":1,"a"x`: 7, `{"a":1, "a" :2}`: 8, `{"":1,"":2}`: 6, `{"\u0000":1,"\u0000":2}`: 12, `{"/":1,"\/":2}`: 7, `{"\ud83d\ude00":1,"😀":2}`: 18,
		`{"a":1,"b":2,"c":3,"b":4}`: 19, `{"a":{"a":1},"a":2}`: 13, `{"a":{"a":1,"a":2}}`: 12, `[{"a":1},{"a":2,"a":3}]`: 16,
	} {
		checkFault(t, s, at, api.ErrKey)
	}
	checkFault(t, `{"a":1,"a`, 9, api.ErrSyntax)
	checkFault(t, `{"a":1,"a\`, 10, api.ErrSyntax)
	checkFault(t, `{"a":x,"a":1}`, 5, api.ErrSyntax)
	checkFault(t, "{\"\xff\":1,\"\xff\":1}", 2, api.ErrText)
	checkFault(t, "{\"a\":1,\"\xffa\":1}", 8, api.ErrText)
	checkNodes(t, `{"a":{"a":{"a":1}},"A":2,"á":3}`, node(7, "", "", 3), node(7, "a", "", 1), node(7, "a", "", 1), node(4, "a", "1", 0), node(4, "A", "2", 0), node(4, "á", "3", 0))
	checkNodes(t, `[{"a":1},{"a":2}]`, node(6, "", "", 2), node(7, "", "", 1), node(4, "a", "1", 0), node(7, "", "", 1), node(4, "a", "2", 0))
}

func TestP2_1Deep(t *testing.T) {
	for _, inner := range []string{"", "0", "null", "true", "false", `"x"`} {
		checkModel(t, repeat("[", 16)+inner+repeat("]", 16))
	}
	checkModel(t, repeat(`{"a":`, 15)+"{"+repeat("}", 16))
	checkModel(t, repeat(`{"a":`, 16)+"null"+repeat("}", 16))
	checkNodes(t, repeat("[", 15)+"[],{}"+repeat("]", 15), slices.Concat(slices.Repeat([]api.Node{node(6, "", "", 1)}, 14), []api.Node{node(6, "", "", 2), node(6, "", "", 0), node(7, "", "", 0)})...)
	checkFault(t, repeat("[", 17), 16, api.ErrDeep)
	checkFault(t, repeat("[", 16)+"{}", 16, api.ErrDeep)
	checkFault(t, repeat("[", 16)+"0,[]", 18, api.ErrDeep)
	checkFault(t, repeat(`{"a":`, 16)+"[", 80, api.ErrDeep)
	checkFault(t, repeat(`{"a":`, 16)+"{", 80, api.ErrDeep)
	checkFault(t, repeat(`{"a":`, 16)+"1,{", 82, api.ErrSyntax)
	checkFault(t, repeat("[", 16), 16, api.ErrSyntax)
	checkFault(t, repeat("[", 16)+"x", 16, api.ErrSyntax)
	checkFault(t, repeat("[", 16384), 16, api.ErrDeep)
	// Brackets that were closed count no more.
	checkModel(t, "["+repeat(repeat("[", 15)+repeat("]", 15)+",", 20)+"0]")
	checkModel(t, "["+repeat(repeat("[", 15)+repeat("]", 15)+",", 20)+repeat("[", 15)+"[")
}

func TestP2_1Nodes(t *testing.T) {
	if nodes, place, err := Parse(zeros(1023)); len(nodes) != 1024 || nodes[0].Size != 1023 || place != 0 || err != api.OK {
		t.Errorf("P2.1: 1024 values: %d nodes, %d, %d", len(nodes), place, err)
	}
	full := zeros(1023)[:2046]
	checkFault(t, zeros(1024), 2047, api.ErrNodes)
	checkFault(t, full+",", 2047, api.ErrSyntax)
	for _, c := range []string{"null", "n", "f", "t", "-", "9", `"`, `"\x`, "\"\xff\"", "[", "{"} {
		checkFault(t, full+", "+c, 2048, api.ErrNodes)
	}
	for _, c := range []string{"x", "]", "}", ",", ":", "\x00", "N"} {
		checkFault(t, full+", "+c, 2048, api.ErrSyntax)
	}
	// ErrNodes goes ahead of ErrDeep at the same byte: 16 brackets are open, and all values are there.
	last := repeat("[", 16) + repeat("0,", 1008)
	checkFault(t, last+"[", len(last), api.ErrNodes)
	checkFault(t, last[:len(last)-2]+"[", len(last)-2, api.ErrDeep)
	// A key is no value.
	members := "{"
	for i := range 1023 {
		members += fmt.Sprintf(`"%d":0,`, i)
	}
	if nodes, _, err := Parse(members[:len(members)-1] + "}"); len(nodes) != 1024 || err != api.OK {
		t.Errorf("P2.1: 1023 members: %d nodes, %d", len(nodes), err)
	}
	checkFault(t, members+`"x"`, len(members)+3, api.ErrSyntax)
	checkFault(t, members+`"0":`, len(members), api.ErrKey)
	checkFault(t, members+`"x":0`, len(members)+4, api.ErrNodes)
	checkFault(t, members+`"x":x`, len(members)+4, api.ErrSyntax)
}

func TestP2_1Long(t *testing.T) {
	checkNodes(t, repeat(" ", 16383)+"0", node(4, "", "0", 0))
	checkNodes(t, `"`+repeat("x", 16382)+`"`, node(5, "", repeat("x", 16382), 0))
	checkFault(t, repeat(" ", 16384), 16384, api.ErrSyntax)
	checkFault(t, repeat(" ", 16384)+"0", 0, api.ErrLong)
	checkFault(t, "0"+repeat(" ", 16384), 0, api.ErrLong)
	checkFault(t, repeat("x", 16385), 0, api.ErrLong)
	checkFault(t, repeat("[", 16385), 0, api.ErrLong)
	checkFault(t, zeros(1<<20), 0, api.ErrLong)
	checkFault(t, `"`+repeat("\xff", 1<<20), 0, api.ErrLong)
}

func TestP2_1Neighbours(t *testing.T) {
	for _, seed := range []string{
		`[1, -2.5e+3,null]`, `{"a":true,"\u0061b":false}`, `{"a":1,"b":[{"a":2}]}`, `["\ud83d\ude00\n"]`, "[\"\u00e9\u20ac\U0001f600\"]", ` { } `, `[[],[0]]`,
	} {
		for _, s := range neighbours(seed) {
			checkModel(t, s)
		}
	}
	for _, s := range neighbours(repeat("[", 16) + "0" + repeat("]", 16)) {
		checkModel(t, s)
	}
}

func TestP2_1Mixed(t *testing.T) {
	pieces := strings.Split(`[|]|{|}|,|:|"|"a"|"b"|"\u0061"|"a":|"b":1,|0|-1|1.5|1e9|01|null|true|false|nul|\|\ud83d|\ude00|\n| |x|[1,|[]|{}|"\ud83d\ude00"`, "|")
	pieces = append(pieces, "\t", "\n", "\x00", "\xff", "\xc3", "\xa9", "\u00e9")
	roll := dice()
	for range 30000 {
		text := ""
		for range 1 + roll.Intn(8) {
			text += pieces[roll.Intn(len(pieces))]
		}
		checkModel(t, text)
	}
}

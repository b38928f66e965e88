package conf

import (
	"bytes"
	"encoding/json"
	"fmt"
	"math/rand"
	"regexp"
	"slices"
	"sort"
	"strconv"
	"strings"
	"testing"
	"unicode/utf16"
	"unicode/utf8"

	"weft/api"
)

func node(kind int, key, text string, size int) api.Node {
	return api.Node{Kind: kind, Key: key, Text: text, Size: size}
}

// show is the beginning of a list of nodes, for a test's complaint.
func show(nodes []api.Node) string { return fmt.Sprintf("%.300s", fmt.Sprint(nodes)) }

func repeat(s string, n int) string { return strings.Repeat(s, n) }

// zeros is an array of n zeros as text.
func zeros(n int) string { return "[" + repeat("0,", n-1) + "0]" }

// dice rolls the same in every run.
func dice() *rand.Rand { return rand.New(rand.NewSource(2)) }

// telling are the bytes that mean something to a JSON text, those beside them in order, and edges of UTF-8.
const telling = "\x00\x08\t\n\v\f\r\x1f !\"#*+,-./0189:;@ADEFGTUZ[\\]^`abdefglnrstuz{|}~\x7f\x80\xa9\xbf\xc3\xe2\xed\xf0\xff"

// neighbours is each text that one byte changed, put in or left out makes of s, the beginnings of s, and s itself.
func neighbours(s string) []string {
	list := []string{s}
	for i := range len(s) + 1 {
		list = append(list, s[:i])
		for j := range len(telling) {
			c := telling[j : j+1]
			list = append(list, s[:i]+c+s[i:])
			if i < len(s) {
				list = append(list, s[:i]+c+s[i+1:])
			}
		}
		if i < len(s) {
			list = append(list, s[:i]+s[i+1:])
		}
	}
	return list
}

// endings are what may make a beginning of a JSON text whole, up to its brackets: an end of each thing that may have been begun.
var endings = []string{
	"", "0", `"`, `""`, "ull", "ll", "l", "alse", "lse", "se", "e", "rue", "ue", `":0`, ":0", `"":0`,
	`n"`, `n":0`, `0"`, `0":0`, `00"`, `00":0`, `000"`, `000":0`, `0000"`, `0000":0`,
}

// goesOn tells whether a JSON text begins with s, by the standard library's judgement of what is one.
func goesOn(s string) bool {
	closing := brackets(s)
	return slices.ContainsFunc(endings, func(end string) bool { return json.Valid([]byte(s + end + closing)) })
}

// brackets is what closes those that are open behind s.
func brackets(s string) string {
	closing := ""
	inside := false
	for i := 0; i < len(s); i++ {
		switch {
		case inside && s[i] == '\\':
			i++
		case s[i] == '"':
			inside = !inside
		case inside:
		case s[i] == '[':
			closing = "]" + closing
		case s[i] == '{':
			closing = "}" + closing
		case (s[i] == ']' || s[i] == '}') && closing != "":
			closing = closing[1:]
		}
	}
	return closing
}

// brokenAt is the place of the first byte with which no JSON text goes on, and -1 where s is one.
func brokenAt(s string) int {
	if json.Valid([]byte(s)) {
		return -1
	}
	return sort.Search(len(s), func(i int) bool { return !goesOn(s[:i+1]) })
}

var (
	pieceForm = regexp.MustCompile(`\A(?:[ \t\n\r]+|[\[\]{},:]|"(?s:[^"\\]|\\.)*"?|[^ \t\n\r\[\]{},:"]+)`)
	charForm  = regexp.MustCompile(`\A(?:\\u[0-9a-fA-F]{4}|\\[^u])`)
)

// modelParse is what P2.1 says of a text, without its nodes. It takes the text apart by forms, as far as its grammar holds.
func modelParse(text string) (int, api.Errno) {
	if len(text) > 16384 {
		return 0, api.ErrLong
	}
	end := brokenAt(text)
	if end < 0 {
		if at, err := modelMeaning(text); err != api.OK {
			return at, err
		}
		return 0, api.OK
	}
	if at, err := modelMeaning(text[:end]); err != api.OK {
		return at, err
	}
	return end, api.ErrSyntax
}

// modelMeaning is the first fault, but for those of the grammar, in the beginning of a JSON text.
func modelMeaning(text string) (int, api.Errno) {
	type level struct {
		object bool
		keys   []string
	}
	var open []level
	values, key := 0, false
	for at := 0; at < len(text); {
		piece := pieceForm.FindString(text[at:])
		switch c := piece[0]; {
		case strings.ContainsRune(" \t\n\r", rune(c)):
		case c == ',':
			key = open[len(open)-1].object
		case c == ':':
			key = false
		case c == ']' || c == '}':
			open, key = open[:len(open)-1], false
		case key:
			if !closed(piece) {
				break
			}
			s, bad := modelDecode(piece)
			if bad >= 0 {
				return at + bad, api.ErrText
			}
			top := &open[len(open)-1]
			if slices.Contains(top.keys, s) {
				return at, api.ErrKey
			}
			top.keys = append(top.keys, s)
		default:
			if values++; values > 1024 {
				return at, api.ErrNodes
			}
			if c == '[' || c == '{' {
				if len(open) == 16 {
					return at, api.ErrDeep
				}
				open, key = append(open, level{object: c == '{'}), c == '{'
			}
			if c == '"' && closed(piece) {
				if _, bad := modelDecode(piece); bad >= 0 {
					return at + bad, api.ErrText
				}
			}
		}
		at += len(piece)
	}
	return 0, api.OK
}

// closed tells whether a string has its closing quote: one that no escape has.
func closed(piece string) bool {
	return json.Valid([]byte(piece))
}

// modelDecode decodes a string with its quotes; bad is the place of what cannot be, or -1.
func modelDecode(piece string) (text string, bad int) {
	last := rune(0)
	lastAt := 0
	for at := 1; at < len(piece)-1; {
		esc := charForm.FindString(piece[at:])
		c, width := utf8.DecodeRuneInString(piece[at:])
		surrogate := false
		if len(esc) == 6 {
			n, _ := strconv.ParseUint(esc[2:], 16, 16)
			c, width = rune(n), 6
			surrogate = utf16.IsSurrogate(c)
		} else if esc != "" {
			c, width = map[byte]rune{'b': 8, 'f': 12, 'n': 10, 'r': 13, 't': 9, '/': '/', '"': '"', '\\': '\\'}[esc[1]], 2
		} else if c == utf8.RuneError && width == 1 {
			surrogate = true
		}
		pair := rune(utf8.RuneError)
		if last != 0 {
			if pair = utf16.DecodeRune(last, c); pair == utf8.RuneError {
				return "", lastAt
			}
			text, last = text+string(pair), 0
		} else if surrogate && len(esc) == 6 && c < 0xdc00 {
			last, lastAt = c, at
		} else if surrogate {
			return "", at
		} else {
			text += string(c)
		}
		at += width
	}
	if last != 0 {
		return "", lastAt
	}
	return text, -1
}

// modelNodes is the nodes of a text without fault, as the standard library reads it.
func modelNodes(t *testing.T, text string) []api.Node {
	t.Helper()
	d := json.NewDecoder(bytes.NewReader([]byte(text)))
	d.UseNumber()
	var nodes []api.Node
	var value func(key string)
	next := func() json.Token {
		x, err := d.Token()
		if err != nil {
			t.Fatalf("the library refuses %.80q: %v", text, err)
		}
		return x
	}
	value = func(key string) {
		at := len(nodes)
		nodes = append(nodes, api.Node{Key: key})
		size := 0
		switch x := next().(type) {
		case nil:
			nodes[at].Kind = 1
		case bool:
			nodes[at].Kind = map[bool]int{false: 2, true: 3}[x]
		case json.Number:
			nodes[at].Kind, nodes[at].Text = 4, x.String()
		case string:
			nodes[at].Kind, nodes[at].Text = 5, x
		case json.Delim:
			nodes[at].Kind = map[json.Delim]int{'[': 6, '{': 7}[x]
			for ; d.More(); size++ {
				name := ""
				if x == '{' {
					name = next().(string)
				}
				value(name)
			}
			next()
			nodes[at].Size = size
		}
	}
	value("")
	return nodes
}

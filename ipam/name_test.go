package ipam

import (
	"strings"
	"testing"

	"weft/api"
)

func TestP15_2Names(t *testing.T) {
	good := []string{
		"a", "z", "m", "0", "9", "5", "aa", "a0", "0a", "00", "a-b", "a--b", "a---b", "9-z", "0-0", "a-b-c-d", "xn--a",
		strings.Repeat("x", 62), strings.Repeat("x", 63), strings.Repeat("9", 63),
		"a" + strings.Repeat("-", 61) + "z", strings.Repeat("a-", 31) + "a",
	}
	for _, name := range good {
		b := begun(t, sub(10, 5, 1, 0, 24)).next(name, quad(10, 5, 1, 2))
		if a, err := b.p.Find(name); a != quad(10, 5, 1, 2) || err != api.OK {
			t.Errorf("P15.4: Find(%q) = %x, %d", name, a, err)
		}
	}
}

func TestP15_2NoNames(t *testing.T) {
	bad := []string{
		"", "-", "--", "---", "-a", "a-", "-a-", "--a", "a--", "A", "Z", "aB", "Ab", "a_b", "a b", " a", "a ", "a.b", ".", "a.", "a,b", "a+b", "a/b",
		"`", "{", "/", ":", "@", "[", "_", "\x00", "a\x00", "\x00a", "a\nb", "a\n", "\n", "\t", "\x7f", "\x80", "\xe1", "\xff", "a\xffb", "é", "aéb", "а", "ａ", "１", "١", "‐", "\u2212", "ß", "\U0001f600",
		strings.Repeat("x", 64), strings.Repeat("x", 65), strings.Repeat("x", 255), strings.Repeat("x", 256), strings.Repeat("x", 257), strings.Repeat("x", 319), strings.Repeat("x", 1<<20), strings.Repeat("-", 63), strings.Repeat("-", 64), strings.Repeat("-", 1<<16),
		"-" + strings.Repeat("x", 62), strings.Repeat("x", 62) + "-", strings.Repeat("é", 63), strings.Repeat("x", 61) + "é", strings.Repeat("x", 62) + "é",
	}
	b := begun(t, sub(10, 5, 1, 0, 24))
	for _, name := range bad {
		if a, err := b.add(name); a != 0 || err != api.ErrName {
			t.Errorf("P15.2: Add(%q) = %x, %d", name, a, err)
		}
		if len(b.p.List()) != 0 {
			t.Fatalf("P0.2: behind Add(%q): %v", name, b.p.List())
		}
	}
	b.check().next("a", quad(10, 5, 1, 2))
}

// Each byte alone, first, last, and in the midst.
func TestP15_2EveryByte(t *testing.T) {
	const may = "abcdefghijklmnopqrstuvwxyz0123456789"
	for c := range 256 {
		at := string([]byte{byte(c)})
		ends := strings.Contains(may, at)
		cases := []struct {
			name string
			good bool
		}{
			{at, ends}, {at + "b", ends}, {"b" + at, ends}, {"b" + at + "b", ends || at == "-"},
			{at + strings.Repeat("b", 62), ends}, {strings.Repeat("b", 62) + at, ends},
			{strings.Repeat("b", 31) + at + strings.Repeat("b", 31), ends || at == "-"},
			{"b" + at + strings.Repeat("b", 61), ends || at == "-"}, {strings.Repeat("b", 61) + at + "b", ends || at == "-"},
		}
		for _, k := range cases {
			want := api.ErrName
			if k.good {
				want = api.OK
			}
			if _, err := begun(t, sub(10, 5, 1, 0, 24)).add(k.name); err != want {
				t.Errorf("P15.2: Add(%q) = %d, want %d", k.name, err, want)
			}
		}
	}
}

func TestP15_2EveryLengthOfName(t *testing.T) {
	b := begun(t, sub(10, 5, 0, 0, 16))
	for n := range 200 {
		want := api.ErrName
		if n >= 1 && n <= 63 {
			want = api.OK
		}
		if _, err := b.add(strings.Repeat("q", n)); err != want {
			t.Errorf("P15.2: Add of %d bytes = %d, want %d", n, err, want)
		}
	}
	b.check()
}

// Names that are nearly the same are not the same.
func TestP15_2NamesApart(t *testing.T) {
	b := begun(t, sub(10, 5, 1, 0, 24))
	list := []string{"a", "aa", "a-a", "a--a", "aaa", "0", "00", "a0", "0a", strings.Repeat("x", 62), strings.Repeat("x", 63), strings.Repeat("x", 62) + "y", "y" + strings.Repeat("x", 62)}
	for i, name := range list {
		b.next(name, quad(10, 5, 1, 2+i))
	}
	b.check().dels("a", "a-a").check()
}

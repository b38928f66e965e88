package dns

import (
	"bytes"
	"strings"
	"testing"

	"weft/api"
)

// nameOf is what a question's name is read as.
func nameOf(t *testing.T, name ...byte) string {
	t.Helper()
	return mustParse(t, join(head(1, 0, 0, 0), que(name...))).Questions[0].Name
}

// noName tells a failure, if bytes are read as a name, be they the last ones or not.
func noName(t *testing.T, err api.Errno, name ...byte) {
	t.Helper()
	refuses(t, join(head(1, 0, 0, 0), name), err)
	refuses(t, join(head(1, 0, 0, 0), que(name...)), err)
	refuses(t, join(head(1, 1, 0, 0), que(0), rec(name, 16)), err)
}

func TestP24_1Names(t *testing.T) {
	for _, n := range []string{".", "a", "Z", "a.b", "WEB.pods", "-", "_", "--.__.-_", "0.1.2.3", "a.A", "x--y", strings.Repeat("a.", 126) + "a", text(63), text(64)} {
		if got := nameOf(t, nam(n)...); got != n {
			t.Errorf("P24.1: %q is read as %q", n, got)
		}
	}
}

// Each byte as a label of its own, and amidst and behind others.
func TestP24_1LabelBytes(t *testing.T) {
	for v := range 256 {
		c := byte(v)
		may := strings.IndexByte("ABCDEFGHIJKLMNOPQRSTUVWXYZabcdefghijklmnopqrstuvwxyz0123456789-_", c) >= 0
		for _, l := range []string{string([]byte{c}), string([]byte{'a', c}), string([]byte{c, 'a'}), string([]byte{'a', c, 'a'})} {
			if !may {
				noName(t, api.ErrDName, append(lab("web", l), 0)...)
				noName(t, api.ErrDName, append(lab(l), 0)...)
				continue
			}
			if got := nameOf(t, append(lab("web", l), 0)...); got != "web."+l {
				t.Errorf("P24.1: the byte %02x: %q", v, got)
			}
		}
	}
}

// Each length byte, with as many bytes behind it as it asks for.
func TestP24_1LengthBytes(t *testing.T) {
	for n := range 256 {
		name := join([]byte{byte(n)}, bytes.Repeat([]byte("k"), n), []byte{0})
		switch {
		case n == 0:
			if got := nameOf(t, 0); got != "." {
				t.Errorf("P24.1: a 0 is %q", got)
			}
		case n < 64:
			if got := nameOf(t, name...); got != strings.Repeat("k", n) {
				t.Errorf("P24.1: length %d: %q", n, got)
			}
			noShort(t, n)
		case n < 192:
			noName(t, api.ErrDName, name...)
			refuses(t, join(head(1, 0, 0, 0), []byte{byte(n)}), api.ErrDName) // its kind is looked at ahead of its bytes
		default:
			noName(t, api.ErrPointer, byte(n), 'k')
			refuses(t, join(head(1, 0, 0, 0), []byte{byte(n)}), api.ErrDNS)
		}
	}
}

// noShort holds that a label's bytes must all be there, ahead of what they are.
func noShort(t *testing.T, n int) {
	t.Helper()
	for _, c := range []string{"k", " ", "\x00"} {
		refuses(t, join(head(1, 0, 0, 0), []byte{byte(n)}, bytes.Repeat([]byte(c), n-1)), api.ErrDNS)
	}
	refuses(t, join(head(1, 0, 0, 0), []byte{byte(n)}, bytes.Repeat([]byte(" "), n)), api.ErrDName)
}

// Names of 254, 255 and 256 bytes.
func TestP24_1LongNames(t *testing.T) {
	for _, size := range []int{254, 255} {
		b := nam(text(size))
		if got := nameOf(t, b...); len(b) != size || got != text(size) {
			t.Errorf("P24.1: %d bytes are %q", len(b), got)
		}
	}
	long := nam(text(256))
	noName(t, api.ErrDName, long...)
	refuses(t, join(head(1, 0, 0, 0), long[:255]), api.ErrDName) // ahead of the 0 that is not there
	refuses(t, join(head(1, 0, 0, 0), long[:254]), api.ErrDNS)   // not all bytes of the last label are there
	spoilt := bytes.Clone(long)
	spoilt[253] = '.'
	noName(t, api.ErrDName, spoilt...)
	one := join(lab(strings.Repeat("a", 63), strings.Repeat("b", 63), strings.Repeat("c", 63)), []byte{61}, bytes.Repeat([]byte("d"), 61))
	if got := nameOf(t, append(one, 0)...); len(one) != 254 || len(got) != 253 {
		t.Errorf("P24.1: %q", got)
	}
	noName(t, api.ErrDName, append(one, 1, 'e', 0)...)
	noName(t, api.ErrDName, append(one, 64)...)
	refuses(t, join(head(1, 0, 0, 0), one, []byte{1}), api.ErrDNS) // its byte is missing, ahead of there being too many
	refuses(t, join(head(1, 0, 0, 0), one), api.ErrDNS)
	singles := strings.Repeat("a.", 127) + "a"
	noName(t, api.ErrDName, nam(singles)...)
}

// Pointers to each place there is, from each of three beginnings.
func TestP24_1Places(t *testing.T) {
	front := join(head(2, 0, 0, 0), que(nam("ab.cd")...)) // the next name begins at 23
	for place := range 1 << 14 {
		for _, lead := range []string{"", "x", "x.yz"} {
			var name []byte
			if lead != "" {
				name = lab(strings.Split(lead, ".")...)
			}
			m, err := parsed(t, join(front, que(append(name, ptr(place)...)...)))
			switch {
			case place < 12 || place >= 23:
				if err != api.ErrPointer {
					t.Fatalf("P24.1: a pointer to %d: %d", place, err)
				}
			case place == 12 || place == 15 || place == 18 || place == 19 || place == 21: // labels, the 0, and two bytes 0 behind
				if err != api.OK || !strings.HasPrefix(m.Questions[1].Name, lead) {
					t.Fatalf("P24.1: a pointer to %d: %+v, %d", place, m, err)
				}
			}
		}
	}
	for place, want := range map[int]string{12: "ab.cd", 15: "cd", 18: ".", 19: "."} {
		if m := mustParse(t, join(front, que(ptr(place)...))); m.Questions[1].Name != want {
			t.Errorf("P24.1: a pointer to %d is %q", place, m.Questions[1].Name)
		}
	}
	refuses(t, join(front, que(ptr(13)...)), api.ErrDName)     // to the middle of a label
	refuses(t, join(front, que(ptr(22)...)), api.ErrDName)     // 1, and behind it the pointer's first byte
	refuses(t, join(front, ptr(12)[:1]), api.ErrDNS)           // the second byte is missing
	refuses(t, join(front, lab("x"), ptr(12)[:1]), api.ErrDNS) // ahead of a label too
	refuses(t, join(front, que(append(lab("x"), ptr(23)...)...)), api.ErrPointer)
	refuses(t, join(front, que(append(lab("x"), ptr(25)...)...)), api.ErrPointer)
}

// The highest place that a pointer can tell.
func TestP24_1FarPlaces(t *testing.T) {
	fill := 16383 - 12 - 11
	front := join(head(0, 3, 0, 0), rec(nam("."), 16, make([]byte, fill)...))
	b := join(front, rec(nam("far"), 16), rec(ptr(16383), 16))
	if m := mustParse(t, b); len(front) != 16383 || m.Answers[2].Name != "far" {
		t.Errorf("P24.1: a far pointer: %+v", m.Answers[1:])
	}
}

// The middle of a label can be read as a label.
func TestP24_1Middle(t *testing.T) {
	label := "0" + strings.Repeat("k", 48) // '0' is 48
	m := mustParse(t, join(head(2, 0, 0, 0), que(nam(label)...), que(ptr(13)...)))
	if m.Questions[1].Name != strings.Repeat("k", 48) {
		t.Errorf("P24.1: the middle is read as %q", m.Questions[1].Name)
	}
	refuses(t, join(head(2, 0, 0, 0), que(nam("kk")...), que(ptr(13)...)), api.ErrDName) // 'k' is 107
}

// A run ends by its own bytes, even where they are those of a run that led to it.
func TestP24_1RunsOverlap(t *testing.T) {
	over := func(data, next []byte) []byte {
		return join(head(0, 2, 0, 0), rec(nam("."), 16, data...), rec(join(next, ptr(23)), 16)) // the data at 23
	}
	long := lab(strings.Repeat("c", 48))                            // 48 is '0'
	refuses(t, over([]byte{3, 'a', 'b'}, lab("c")), api.ErrDName)   // "ab", and the length of "c"
	refuses(t, over([]byte{3, 'a', 'b'}, long), api.ErrDName)       // "ab0", and 'c' is no length
	refuses(t, over([]byte{1, 'a', 50, 'b'}, long), api.ErrPointer) // "a", a label of 50 bytes, and the pointer to where the run began
	refuses(t, over([]byte{1, 'a', 51, 'b'}, long), api.ErrDName)   // a label that would have the pointer's first byte
	refuses(t, over([]byte{1, 'a'}, nil), api.ErrPointer)           // "a", and the pointer
	refuses(t, over(nil, nil), api.ErrPointer)                      // the pointer itself
	refuses(t, over([]byte{1, 'a', 0xc0}, nil), api.ErrPointer)     // "a", and a pointer that was not meant: to 192
	refuses(t, over([]byte{1, 'a', 0xc0, 11}, nil), api.ErrPointer) // "a", and a pointer into the head
	refuses(t, over([]byte{1, 'a', 0xc0, 24}, nil), api.ErrPointer) // "a", and a pointer ahead
	mustParse(t, over([]byte{1, 'a', 0xc0, 12}, nil))               // "a", and the root at 12
}

// chain is a message whose last name goes over so many pointers, each of them leading to one label more.
func chain(hops int, labels ...string) []byte {
	var data []byte
	const begin = 23
	last := begin
	data = append(data, nam(labels[0])...)
	for i := 1; i < hops; i++ {
		next := begin + len(data)
		if i < len(labels) {
			data = append(data, lab(labels[i])...)
		}
		data = append(data, ptr(last)...)
		last = next
	}
	return join(head(0, 2, 0, 0), rec(nam("."), 16, data...), rec(ptr(last), 16))
}

func TestP24_1Hops(t *testing.T) {
	for _, hops := range []int{1, 2, 3, 63, 64} {
		if m := mustParse(t, chain(hops, "a")); m.Answers[1].Name != "a" {
			t.Errorf("P24.1: over %d pointers: %q", hops, m.Answers[1].Name)
		}
	}
	for _, hops := range []int{65, 66, 67, 200, 20000} {
		refuses(t, chain(hops, "a"), api.ErrPointer)
	}
	many := strings.Split(strings.Repeat("b.", 63)+"b", ".")
	if m := mustParse(t, chain(64, many...)); m.Answers[1].Name != strings.Join(many, ".") {
		t.Errorf("P24.1: 64 labels: %q", m.Answers[1].Name)
	}
	// each name has pointers of its own
	b := chain(64, "a")
	b[7] = 3
	again := b[len(b)-12:]
	if m := mustParse(t, join(b, again)); m.Answers[2].Name != "a" {
		t.Errorf("P24.1: 64 pointers twice: %+v", m.Answers[2])
	}
	// the 65th pointer, whose place may not be either, and whose second byte is missing
	b = chain(64, "a")
	b[23] = 0xc0
	refuses(t, b, api.ErrPointer)
}

// A chain whose labels come to 254, 255 and 256 bytes, in the first run and in the last.
func TestP24_1LongChains(t *testing.T) {
	tens := func(n int) []string {
		return strings.Split(strings.TrimSuffix(strings.Repeat("abcdefghi.", n), "."), ".")
	}
	for _, last := range []int{2, 3, 4} { // 250 bytes of labels, as many more with their length bytes, and the 0
		end := strings.Repeat("z", last)
		for _, labels := range [][]string{append([]string{end}, tens(25)...), append(tens(25), end)} {
			b := chain(len(labels), labels...)
			size := 250 + 1 + last + 1
			if size > 255 {
				refuses(t, b, api.ErrDName)
				continue
			}
			if m := mustParse(t, b); len(m.Answers[1].Name) != size-2 {
				t.Errorf("P24.1: %d bytes: %q", size, m.Answers[1].Name)
			}
		}
	}
	// the name is too long ahead of the 65th pointer, or behind it
	long := strings.Split(strings.Repeat("abc.", 66)+"abc", ".")
	refuses(t, chain(64, long[:64]...), api.ErrDName)
	refuses(t, chain(67, long...), api.ErrDName)
	short := strings.Split(strings.Repeat("ab.", 66)+"ab", ".")
	refuses(t, chain(67, short...), api.ErrPointer)
}

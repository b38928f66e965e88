package dns

import (
	"strings"
	"testing"

	"weft/api"
)

// equals tells a failure, if Equal answers otherwise, or otherwise the other way round.
func equals(t *testing.T, a, b string, want bool) {
	t.Helper()
	if Equal(a, b) != want || Equal(b, a) != want || modelEqual(a, b) != want {
		t.Errorf("P24.4: Equal(%q, %q) is not %v", a, b, want)
	}
}

func TestP24_4Equal(t *testing.T) {
	for _, n := range names() {
		equals(t, n, n, true)
		equals(t, n, strings.ToUpper(n), true)
		equals(t, strings.ToLower(n), strings.ToUpper(n), true)
		equals(t, n, n+".", n == "" || false)
		equals(t, n, "."+n, false)
		if n != "." {
			equals(t, n, ".", false)
		}
		if len(n) < 200 && n != "." {
			equals(t, n, n+".x", false)
			equals(t, n, "x."+n, false)
			equals(t, n, n[1:]+"%", false)
		}
	}
	for _, x := range [][2]string{{"a", "b"}, {"a.b", "ab"}, {"a.b", "a-b"}, {"a.b", "b.a"}, {"a", "aa"}, {"a.a", "a"}, {"web.pods", "web.pod"}, {"-", "_"}, {"0", "O"}} {
		equals(t, x[0], x[1], false)
	}
}

// A text that is no name is the same as nothing, itself neither.
func TestP24_4EqualOfNone(t *testing.T) {
	for _, n := range notNames() {
		equals(t, n, n, false)
		equals(t, n, "a", false)
		equals(t, n, ".", false)
		equals(t, n, strings.ToUpper(n), false)
		equals(t, n, "", false)
	}
	// letters that fold into those of names are none
	equals(t, "k", "\u212a", false)
	equals(t, "s", "\u017f", false)
	equals(t, "K.S", "\u212a.\u017f", false)
}

// Each byte beside each other: only small and capital letters are the same.
func TestP24_4EqualBytes(t *testing.T) {
	for v := range 256 {
		for w := range 256 {
			c, d := string([]byte{byte(v)}), string([]byte{byte(w)})
			want := modelIsName(c) && modelIsName(d) && strings.ToUpper(c) == strings.ToUpper(d)
			equals(t, c, d, want)
			if c != "." && d != "." { // behind a letter the root's text is none
				equals(t, "a"+c, "A"+d, want)
			}
		}
	}
}

func TestP24_4Reverse(t *testing.T) {
	for _, x := range []struct {
		a    api.Addr
		text string
	}{
		{1<<24 | 2<<16 | 3<<8 | 4, "4.3.2.1.in-addr.arpa"},
		{0, "0.0.0.0.in-addr.arpa"},
		{1<<32 - 1, "255.255.255.255.in-addr.arpa"},
		{255 << 24, "0.0.0.255.in-addr.arpa"},
		{255, "255.0.0.0.in-addr.arpa"},
		{10<<24 | 99<<16 | 100<<8 | 9, "9.100.99.10.in-addr.arpa"},
		{100<<24 | 200<<16 | 30<<8 | 5, "5.30.200.100.in-addr.arpa"},
	} {
		if got := Reverse(x.a); got != x.text || !modelIsName(got) {
			t.Errorf("P24.4: Reverse(%d) = %q, want %q", x.a, got, x.text)
		}
	}
	r := dice()
	for range 2000 {
		v := r.Uint32()
		var parts []string
		for i := range 4 {
			parts = append(parts, decimal(int(v>>(8*i)%256)))
		}
		if got, want := Reverse(api.Addr(v)), strings.Join(parts, ".")+".in-addr.arpa"; got != want {
			t.Errorf("P24.4: Reverse(%08x) = %q, want %q", v, got, want)
		}
	}
}

// decimal is a number below 1000 digit by digit.
func decimal(n int) string {
	text := ""
	for ; n >= 10; n /= 10 {
		text = string(rune('0'+n%10)) + text
	}
	return string(rune('0'+n)) + text
}

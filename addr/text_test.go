package addr

import (
	"math"
	"net/netip"
	"regexp"
	"strconv"
	"strings"
	"testing"

	"weft/api"
)

const (
	numberForm = `(?:0|[1-9][0-9]?|1[0-9][0-9]|2[0-4][0-9]|25[0-5])`
	quadForm   = numberForm + `(?:\.` + numberForm + `){3}`
	lengthForm = `(?:[0-9]|[12][0-9]|3[0-2])`
	pairForm   = `[0-9a-fA-F]{2}`
)

// modelQuad is the number of a text that has an address's form.
func modelQuad(s string) api.Addr {
	var n uint64
	for _, part := range strings.Split(s, ".") {
		x, _ := strconv.ParseUint(part, 10, 64)
		n = n*256 + x
	}
	return api.Addr(n)
}

func checkParse(t *testing.T, s string, want api.Addr, wantErr api.Errno) {
	t.Helper()
	if a, err := Parse(s); a != want || err != wantErr {
		t.Errorf("P1.1: Parse(%.60q) = %d, %d, want %d, %d", s, a, err, want, wantErr)
	}
}

func TestP1_1Parse(t *testing.T) {
	checkParse(t, "10.1.2.3", 167838211, api.OK)
	checkParse(t, "0.0.0.0", 0, api.OK)
	checkParse(t, "255.255.255.255", top, api.OK)
	checkParse(t, "255.0.0.0", 255<<24, api.OK)
	checkParse(t, "1.20.199.200", quad(1, 20, 199, 200), api.OK)
	for i := range 4 {
		for n := range 1200 {
			parts := []string{"1", "22", "133", "0"}
			parts[i] = strconv.Itoa(n)
			s := strings.Join(parts, ".")
			if n <= 255 {
				checkParse(t, s, modelQuad(s), api.OK)
			} else {
				checkParse(t, s, 0, api.ErrAddr)
			}
		}
	}
}

func TestP1_1ParseRefuses(t *testing.T) {
	for _, s := range []string{
		"", ".", "...", "....", "1", "1.2", "1.2.3", "1.2.3.", ".1.2.3", "1..2.3", "1.2.3.4.", ".1.2.3.4", "1.2.3.4.5",
		"10.1.2.03", "00.1.2.3", "01.1.2.3", "10.000.2.3", "10.1.2.256", "256.0.0.0", "10.1.2.1000",
		"+1.2.3.4", "1.-2.3.4", "-0.0.0.0", " 1.2.3.4", "1.2.3.4 ", "1. 2.3.4", "1.2.3.4\n", "1.2.3.4\x00", "\t1.2.3.4",
		"1,2,3,4", "0x1.2.3.4", "1.2.3.4/32", "1.2.3.a", "a.b.c.d", "1e1.2.3.4", "1_0.2.3.4", "\u0661.2.3.4", "\xff\xfe.1.2.3",
		"4294967297.0.0.0", "18446744073709551617.0.0.0", "1.2.3.18446744073709551620",
		strings.Repeat("9", 100000), strings.Repeat("0", 100000), strings.Repeat("1.", 100000), "1.2.3.4" + strings.Repeat(".4", 100000),
	} {
		checkParse(t, s, 0, api.ErrAddr)
	}
}

func TestP1_1ParseNeighbours(t *testing.T) {
	form := regexp.MustCompile(`\A` + quadForm + `\z`)
	for _, seed := range []string{"10.1.2.3", "0.0.0.0", "255.255.255.255", "25.199.249.100"} {
		for _, s := range neighbours(seed) {
			if form.MatchString(s) {
				checkParse(t, s, modelQuad(s), api.OK)
			} else {
				checkParse(t, s, 0, api.ErrAddr)
			}
		}
	}
}

func TestP1_2Format(t *testing.T) {
	checkFormat := func(a api.Addr) {
		want := netip.AddrFrom4([4]byte{byte(a >> 24), byte(a >> 16), byte(a >> 8), byte(a)}).String()
		s := Format(a)
		if s != want {
			t.Errorf("P1.2: Format(%d) = %q, want %q", a, s, want)
		}
		if back, err := Parse(s); back != a || err != api.OK {
			t.Errorf("P1.2: Parse(Format(%d)) = %d, %d", a, back, err)
		}
	}
	for n := range api.Addr(256) {
		for _, shift := range []int{0, 8, 16, 24} {
			checkFormat(n << shift)
			checkFormat(^(n << shift))
		}
	}
	for i := range api.Addr(1 << 16) {
		checkFormat(i * 65537)
		checkFormat(i * 2654435761)
	}
	if s := Format(167838211); s != "10.1.2.3" {
		t.Errorf("P1.2: Format(167838211) = %q", s)
	}
}

func checkParsePrefix(t *testing.T, s string, want api.Prefix, wantErr api.Errno) {
	t.Helper()
	if p, err := ParsePrefix(s); p != want || err != wantErr {
		t.Errorf("P1.3: ParsePrefix(%.60q) = %v, %d, want %v, %d", s, p, err, want, wantErr)
	}
}

func TestP1_3ParsePrefix(t *testing.T) {
	checkParsePrefix(t, "10.4.0.0/14", prefix(10, 4, 0, 0, 14), api.OK)
	checkParsePrefix(t, "0.0.0.0/0", api.Prefix{}, api.OK)
	checkParsePrefix(t, "0.0.0.0/32", prefix(0, 0, 0, 0, 32), api.OK)
	checkParsePrefix(t, "255.255.255.255/32", prefix(255, 255, 255, 255, 32), api.OK)
	checkParsePrefix(t, "255.255.255.254/31", prefix(255, 255, 255, 254, 31), api.OK)
	checkParsePrefix(t, "128.0.0.0/1", prefix(128, 0, 0, 0, 1), api.OK)
	for _, s := range []string{"10.5.0.0/14", "0.0.0.1/0", "128.0.0.0/0", "64.0.0.0/1", "255.255.255.255/31", "10.0.0.1/8"} {
		checkParsePrefix(t, s, api.Prefix{}, api.ErrHostBits)
	}
}

func TestP1_3ParsePrefixRefuses(t *testing.T) {
	for _, s := range []string{
		"", "/", "/0", "/8", "10.0.0.0", "10.0.0.0/", "10.0.0.0//8", "10.0.0.0/8/", "10.0.0.0/8/8", "10.0.0/8", "10.0.0.0.0/8",
		"10.5.0.0/33", "10.5.0.0/014", "0.0.0.0/00", "10.5.0.0/+8", "10.5.0.0/-8", "10.5.0.0/ 8", "10.5.0.0/8 ", " 10.0.0.0/8", "10.0.0.0 /8",
		"10.5.0.1/33", "10.5.0.1/08", "256.0.0.0/8", "010.0.0.0/8", "10.0.0.0/a", "10.0.0.0/8a", "10.0.0.0/100", "10.0.0.0/4294967304", "10.0.0.0/18446744073709551624", "10.0.0.0\\8",
		"10.0.0.0/" + strings.Repeat("3", 100000), "10.0.0.0/" + strings.Repeat("0", 100000), strings.Repeat("/", 100000),
	} {
		checkParsePrefix(t, s, api.Prefix{}, api.ErrPrefix)
	}
}

func TestP1_3ParsePrefixNeighbours(t *testing.T) {
	form := regexp.MustCompile(`\A` + quadForm + `/` + lengthForm + `\z`)
	for _, seed := range []string{"10.4.0.0/14", "0.0.0.0/0", "255.255.255.255/32", "10.0.0.0/9", "192.0.2.128/31"} {
		for _, s := range neighbours(seed) {
			if !form.MatchString(s) {
				checkParsePrefix(t, s, api.Prefix{}, api.ErrPrefix)
				continue
			}
			host, length, _ := strings.Cut(s, "/")
			n, _ := strconv.Atoi(length)
			p := api.Prefix{Addr: modelQuad(host), Len: n}
			if _, _, ok := modelSpan(p); ok {
				checkParsePrefix(t, s, p, api.OK)
			} else {
				checkParsePrefix(t, s, api.Prefix{}, api.ErrHostBits)
			}
		}
	}
}

func TestP1_4FormatPrefix(t *testing.T) {
	for _, a := range someAddrs() {
		for _, n := range someLens() {
			p := api.Prefix{Addr: a, Len: n}
			wantText, wantErr := Format(a)+"/"+strconv.Itoa(n), modelErr(p)
			if wantErr != api.OK {
				wantText = ""
			}
			s, err := FormatPrefix(p)
			if s != wantText || err != wantErr {
				t.Errorf("P1.4: FormatPrefix(%v) = %q, %d, want %q, %d", p, s, err, wantText, wantErr)
			}
			if back, err := ParsePrefix(s); wantErr == api.OK && (back != p || err != api.OK) {
				t.Errorf("P1.4: ParsePrefix(%q) = %v, %d, want %v", s, back, err, p)
			}
		}
	}
	if s, err := FormatPrefix(prefix(10, 4, 0, 0, 14)); s != "10.4.0.0/14" || err != api.OK {
		t.Errorf("P1.4: FormatPrefix of 10.4.0.0/14 = %q, %d", s, err)
	}
}

// modelErr is why a prefix is not valid, or OK.
func modelErr(p api.Prefix) api.Errno {
	if p.Len < 0 || p.Len > 32 {
		return api.ErrPrefix
	}
	if _, _, ok := modelSpan(p); !ok {
		return api.ErrHostBits
	}
	return api.OK
}

// someAddrs has, for each length, addresses of which it is the shortest valid one, and the ends.
func someAddrs() []api.Addr {
	list := []api.Addr{0, 1, top, top - 1, quad(10, 1, 2, 3), quad(10, 4, 0, 0)}
	for i := range 32 {
		list = append(list, 1<<i, top<<i, 1<<i-1)
	}
	return list
}

func someLens() []int {
	list := []int{math.MinInt, math.MinInt32, -33, -32, -1, 33, 63, 64, 65, 1 << 32, 1<<32 + 8, math.MaxInt}
	for n := range 33 {
		list = append(list, n)
	}
	return list
}

func TestP1_5MAC(t *testing.T) {
	m, err := ParseMAC("0A:00:00:00:00:fF")
	if m != (api.MAC{10, 0, 0, 0, 0, 255}) || err != api.OK {
		t.Errorf("P1.5: ParseMAC = %v, %d", m, err)
	}
	if s := FormatMAC(m); s != "0a:00:00:00:00:ff" {
		t.Errorf("P1.5: FormatMAC = %q", s)
	}
	if m, err := ParseMAC("01:23:45:67:89:ab"); m != (api.MAC{0x01, 0x23, 0x45, 0x67, 0x89, 0xab}) || err != api.OK {
		t.Errorf("P1.5: the order of the bytes: %v, %d", m, err)
	}
	for i := range 6 {
		for c := range 256 {
			m := api.MAC{1, 2, 3, 4, 5, 6}
			m[i] = byte(c)
			s := FormatMAC(m)
			if len(s) != 17 || s != strings.ToLower(s) {
				t.Errorf("P1.5: FormatMAC(%v) = %q", m, s)
			}
			for _, text := range []string{s, strings.ToUpper(s)} {
				if back, err := ParseMAC(text); back != m || err != api.OK {
					t.Errorf("P1.5: ParseMAC(%q) = %v, %d, want %v", text, back, err, m)
				}
			}
		}
	}
}

func TestP1_5MACNeighbours(t *testing.T) {
	form := regexp.MustCompile(`\A` + pairForm + `(?::` + pairForm + `){5}\z`)
	for _, seed := range []string{"0a:00:00:00:00:ff", "02:00:C0:00:02:0b", "99:aA:Ff:00:9f:A0"} {
		for _, s := range neighbours(seed) {
			wantErr := api.ErrMAC
			if form.MatchString(s) {
				wantErr = api.OK
			}
			m, err := ParseMAC(s)
			if err != wantErr {
				t.Errorf("P1.5: ParseMAC(%q) = %v, %d, want %d", s, m, err, wantErr)
			}
			if err == api.OK && FormatMAC(m) != strings.ToLower(s) || err != api.OK && m != (api.MAC{}) {
				t.Errorf("P1.5: ParseMAC(%q) = %v, %d", s, m, err)
			}
		}
	}
}

func TestP1_5MACRefuses(t *testing.T) {
	for _, s := range []string{
		"", ":", ":::::", "0a:00:00:00:00", "0a:00:00:00:00:", "0a:00:00:00:00:f", "0a:00:00:00:00:fff", "0a:00:00:00:00:ff:00", "0a:00:00:00:00:ff:",
		"0a-00-00-00-00-ff", "0a00.0000.00ff", "0a00000000ff", "0a:00:00:00::0ff0", ":0a:00:00:00:00:f", "0a:00:00:00:00:fg", "0x:00:00:00:00:ff",
		"+a:00:00:00:00:ff", " a:00:00:00:00:ff", "0a:00:00:00:00:f\x00", "0a:00:00:00:00:\u00e9", strings.Repeat(":", 17), strings.Repeat("0a:", 100000),
	} {
		if m, err := ParseMAC(s); m != (api.MAC{}) || err != api.ErrMAC {
			t.Errorf("P1.5: ParseMAC(%.40q) = %v, %d, want ErrMAC", s, m, err)
		}
	}
}

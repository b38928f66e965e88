package shell

import (
	"math"
	"strings"
	"testing"

	"weft/api"
)

// sample is an argument for each field, and what it says.
var sample = map[string]string{"Host": "7", "N": "-12", "At": "3", "Name": "Web_1", "Bytes": "00ff10", "Addr": "10.5.1.2"}

// full is an act in which every field has what sample says.
func full(kind int) api.Act {
	return api.Act{Kind: kind, Host: 7, N: -12, At: 3, Name: "Web_1", Bytes: []byte{0, 255, 16}, Addr: quad(10, 5, 1, 2)}
}

// sampleLine is a line with sample's arguments.
func sampleLine(r row) string {
	line := r.word
	for _, name := range r.fields {
		line += " " + sample[name]
	}
	return line
}

// sampleAct is the act of that line.
func sampleAct(r row) api.Act {
	from, a := full(r.kind), api.Act{Kind: r.kind}
	for _, name := range r.fields {
		field(&a, name).Set(field(&from, name))
	}
	return a
}

// Every line of the table has its fields and no others.
func TestP20_1EveryLine(t *testing.T) {
	if n := len(rows()); n != 29 {
		t.Fatalf("%d lines", n)
	}
	for i, r := range rows() {
		if r.kind != i+1 {
			t.Fatalf("line %d has the kind %d", i+1, r.kind)
		}
		reads(t, sampleLine(r), sampleAct(r))
	}
}

// The kinds by the names that api gives them, written out by hand.
func TestP20_1EveryLineByHand(t *testing.T) {
	for line, want := range map[string]api.Act{
		"tick 5":          {Kind: api.ActTick, N: 5},
		"step 2 4":        {Kind: api.ActStep, Host: 2, N: 4},
		"round 3":         {Kind: api.ActRound, N: 3},
		"calm":            {Kind: api.ActCalm},
		"crash 1":         {Kind: api.ActCrash, Host: 1},
		"start 1":         {Kind: api.ActStart, Host: 1},
		"reboot 1":        {Kind: api.ActReboot, Host: 1},
		"fail 1":          {Kind: api.ActFail, Host: 1},
		"mute 1":          {Kind: api.ActMute, Host: 1},
		"pod 1 a":         {Kind: api.ActPod, Host: 1, Name: "a"},
		"unpod 1 a":       {Kind: api.ActUnpod, Host: 1, Name: "a"},
		"send 1 0a":       {Kind: api.ActSend, Host: 1, Bytes: []byte{10}},
		"raw 1 0a0b":      {Kind: api.ActRaw, Host: 1, Bytes: []byte{10, 11}},
		"deliver 9":       {Kind: api.ActDeliver, At: 9},
		"lose 9":          {Kind: api.ActLose, At: 9},
		"copy 9":          {Kind: api.ActCopy, At: 9},
		"spoil 9 8 80":    {Kind: api.ActSpoil, At: 9, N: 8, Bytes: []byte{128}},
		"flush 7":         {Kind: api.ActFlush, N: 7},
		"tear 7":          {Kind: api.ActTear, N: 7},
		"reopen":          {Kind: api.ActReopen},
		"revoke 1":        {Kind: api.ActRevoke, Host: 1},
		"leases":          {Kind: api.ActLeases},
		"tables 1":        {Kind: api.ActTables, Host: 1},
		"view 1":          {Kind: api.ActView, Host: 1},
		"pods 1":          {Kind: api.ActPods, Host: 1},
		"flight":          {Kind: api.ActFlight},
		"counts 1":        {Kind: api.ActCounts, Host: 1},
		"holder 10.5.1.2": {Kind: api.ActHolder, Addr: quad(10, 5, 1, 2)},
		"disk":            {Kind: api.ActDisk},
	} {
		reads(t, line, want)
		writes(t, want, line)
	}
}

// Lines of MaxLine bytes, and of one more.
func TestP20_1Long(t *testing.T) {
	name := strings.Repeat("n", api.MaxLine-len("pod 0 "))
	reads(t, "pod 0 "+name, api.Act{Kind: api.ActPod, Name: name})
	refuses(t, api.ErrLong, "pod 0 "+name+"n")
	// Behind "send 0 " an odd number of bytes is left, behind "send 10 " an even one.
	const most = (131200 - 8) / 2
	digits, b := strings.Repeat("ab", most), []byte(strings.Repeat("\xab", most))
	reads(t, "send 0 "+digits, api.Act{Kind: api.ActSend, Bytes: b})
	reads(t, "send 10 "+digits, api.Act{Kind: api.ActSend, Host: 10, Bytes: b})
	refuses(t, api.ErrLong, "send 10 "+digits+"a", "send 0 "+digits+"ab")
	refuses(t, api.ErrHex, "send 0 "+digits+"a")
	refuses(t, api.ErrNumber, "tick "+strings.Repeat("9", api.MaxLine-5), "tick -"+strings.Repeat("1", 1000))
	refuses(t, api.ErrLong, "tick "+strings.Repeat("9", api.MaxLine-4))
	refuses(t, api.ErrCount, "calm"+strings.Repeat(" ", api.MaxLine-4))
	refuses(t, api.ErrWord, strings.Repeat("x", api.MaxLine), strings.Repeat(" ", api.MaxLine), strings.Repeat("\n", api.MaxLine))
	// ErrLong goes ahead of all others.
	for _, c := range []string{"x", " ", "\n", "\xff", "#"} {
		refuses(t, api.ErrLong, strings.Repeat(c, api.MaxLine+1), strings.Repeat(c, 3*api.MaxLine))
	}
	refuses(t, api.ErrLong, "calm"+strings.Repeat(" ", api.MaxLine-3), "holder "+strings.Repeat("1", api.MaxLine))
}

// A newline at any place of a line.
func TestP20_1Newline(t *testing.T) {
	for _, r := range rows() {
		line := sampleLine(r)
		for i := range len(line) + 1 {
			refuses(t, api.ErrWord, line[:i]+"\n"+line[i:])
			if i < len(line) {
				refuses(t, api.ErrWord, line[:i]+"\n"+line[i+1:])
			}
		}
	}
	// It goes ahead of too few words and of arguments that are wrong.
	refuses(t, api.ErrWord, "\n", "tick\n", "tick \n", "calm \n", "tick x \n", "pod 0 \n", "send 0 z\n", "holder \n", "x\n", "pod 0 a\nb")
	// At the end of a line of MaxLine bytes.
	refuses(t, api.ErrWord, "pod 0 "+strings.Repeat("n", api.MaxLine-7)+"\n")
	refuses(t, api.ErrLong, "pod 0 "+strings.Repeat("n", api.MaxLine-6)+"\n")
}

// A first word that is none.
func TestP20_1Word(t *testing.T) {
	refuses(t, api.ErrWord, "", " ", "  ", "x", "#", "# tick 5", "-", "0", "tick5", "tick\t5", "tick\x005", "\ttick 5", "ticktick 5", "Host", "N", "act 1", "\xff", "calm\r")
	for _, r := range rows() {
		line := sampleLine(r)
		rest := strings.TrimPrefix(line, r.word)
		refuses(t, api.ErrWord, " "+line, "  "+line, strings.ToUpper(r.word)+rest, strings.ToUpper(r.word[:1])+line[1:], r.word[1:]+rest, rest, r.word+"x"+rest, "x"+line, r.word+"\x00"+rest)
		if r.word != "pods" {
			refuses(t, api.ErrWord, r.word[:len(r.word)-1]+rest)
		}
		refuses(t, api.ErrWord, strings.Replace(line, r.word, r.word[:len(r.word)-1]+strings.ToUpper(r.word[len(r.word)-1:]), 1))
		for _, name := range r.fields {
			refuses(t, api.ErrWord, name+rest, strings.ToLower(name)+rest)
		}
	}
	// The words pod and pods are two.
	refuses(t, api.ErrCount, "pod 0", "pods 0 a")
	reads(t, "pods 0", api.Act{Kind: api.ActPods})
	// Whatever stands behind it.
	refuses(t, api.ErrWord, "x 1 2 3 4 5 6", "x "+strings.Repeat(" ", 100))
}

// Too few words, too many, a blank at the end, two blanks.
func TestP20_1Count(t *testing.T) {
	for _, r := range rows() {
		line := sampleLine(r)
		refuses(t, api.ErrCount, line+" ", line+"  ", line+" 0", line+" x", line+" -", line+" 1 2 3")
		for words := strings.Split(line, " "); len(words) > 1; {
			words = words[:len(words)-1]
			refuses(t, api.ErrCount, strings.Join(words, " "))
		}
		if len(r.fields) > 0 {
			refuses(t, api.ErrCount, strings.Replace(line, " ", "  ", 1))
		}
	}
	// It goes ahead of what the arguments are.
	refuses(t, api.ErrCount, "tick x y", "step x", "pod x", "send -0", "spoil x zz", "spoil", "spoil  ", "spoil    ", "spoil 1 2", "spoil 1 2 ff ff", "calm x", "holder x y", "holder")
	// Empty words are words.
	refuses(t, api.ErrNumber, "spoil  1 ff", "spoil   ff", "step  ", "step  1")
}

// Numbers, in each of the three fields that are numbers.
func TestP20_1Numbers(t *testing.T) {
	for _, c := range []struct {
		word string
		n    int64
	}{
		{"0", 0}, {"1", 1}, {"-1", -1}, {"9", 9}, {"-9", -9}, {"10", 10}, {"-10", -10}, {"100", 100}, {"123456789", 123456789}, {"2147483648", 1 << 31}, {"4294967296", 1 << 32},
		{"9223372036854775807", math.MaxInt64}, {"-9223372036854775808", math.MinInt64}, {"9223372036854775806", math.MaxInt64 - 1}, {"-9223372036854775807", math.MinInt64 + 1}, {"999999999999999999", 999999999999999999},
	} {
		reads(t, "tick "+c.word, api.Act{Kind: api.ActTick, N: c.n})
		reads(t, "crash "+c.word, api.Act{Kind: api.ActCrash, Host: int(c.n)})
		reads(t, "copy "+c.word, api.Act{Kind: api.ActCopy, At: int(c.n)})
	}
	for _, word := range []string{
		"", "-", "--1", "-0", "+0", "+5", "+", "00", "05", "-05", "-00", "007", "0x1", "0b1", "0o7", "1_0", "_1", "1e3", "1.0", ".5", "1,0", "a", "5a", "a5", "5-", "-5-", "\t5", "5\t", "5\r", "\x005", "5\x00", "\xff", "5\xff", "--", "-a",
		"9223372036854775808", "-9223372036854775809", "9223372036854775810", "-9223372036854775810", "18446744073709551615", "18446744073709551616", "18446744073709551621", "-18446744073709551616", "92233720368547758070", "-92233720368547758080", "99999999999999999999999999", "-99999999999999999999999999", "340282366920938463463374607431768211456",
		"٣", "५", "５", "-５", "1５", "৪2", "²", "Ⅷ", "𝟗", "−5", "–5", "０", "\u00a05", "5\u200b", "\ufeff5",
		"NaN", "inf", "Inf", "-Inf", "true", "nil", "'5'", "\"5\"",
	} {
		refuses(t, api.ErrNumber, "tick "+word, "crash "+word, "copy "+word, "step "+word+" 1", "step 1 "+word, "spoil "+word+" 1 ff", "spoil 1 "+word+" ff", "pod "+word+" a", "send "+word+" -")
	}
}

// Bytes.
func TestP20_1Bytes(t *testing.T) {
	for word, b := range map[string][]byte{"-": nil, "00": {0}, "ff": {255}, "0f": {15}, "f0": {240}, "0123456789abcdef": {1, 0x23, 0x45, 0x67, 0x89, 0xab, 0xcd, 0xef}, "0000": {0, 0}, "0a20": {10, 32}} {
		reads(t, "send 1 "+word, api.Act{Kind: api.ActSend, Host: 1, Bytes: b})
		reads(t, "raw 1 "+word, api.Act{Kind: api.ActRaw, Host: 1, Bytes: b})
		reads(t, "spoil 1 2 "+word, api.Act{Kind: api.ActSpoil, At: 1, N: 2, Bytes: b})
	}
	for c := range 256 {
		line := "send 0 " + string([]byte{hexDigits[c>>4], hexDigits[c&15]})
		reads(t, line, api.Act{Kind: api.ActSend, Bytes: []byte{byte(c)}})
	}
	for _, word := range []string{"", "f", "0", "fff", "FF", "Ff", "fF", "0F", "0A", "g0", "0g", "--", "-0", "-00", "00-", "0x", "0x00", "zz", "`0", "/0", ":0", "@0", "0`", "0/", "0:", "\x00\x00", "\xff\xff", "ff\t", "\tff", "ff\r", "é", "00é", "é00", "٣", "٣٣", "ａ", "0ａ0", "00\xff", "�0", "%%", "%41"} {
		refuses(t, api.ErrHex, "send 0 "+word, "raw 0 "+word, "spoil 0 1 "+word)
	}
}

// Names are of any bytes but blanks and newlines; the empty one alone is refused.
func TestP20_1Names(t *testing.T) {
	for c := range 256 {
		if c == 10 || c == 32 {
			continue
		}
		for _, name := range []string{string([]byte{byte(c)}), string([]byte{'a', byte(c)}), string([]byte{byte(c), 'a'})} {
			reads(t, "pod 1 "+name, api.Act{Kind: api.ActPod, Host: 1, Name: name})
			reads(t, "unpod 1 "+name, api.Act{Kind: api.ActUnpod, Host: 1, Name: name})
		}
	}
	for _, name := range []string{"-", "0", "#", "%", "%41", "tick", "Web_1", "\x00", "\t", "\r", "\u00a0", "\u2028", "\u0085", "é", "日本", "\xff\xfe", "\xc0\x8a", "\xc0\xa0", "\xe2\x80"} {
		reads(t, "pod 0 "+name, api.Act{Kind: api.ActPod, Name: name})
	}
	refuses(t, api.ErrName, "pod 0 ", "unpod 0 ", "pod -9 ")
	refuses(t, api.ErrNumber, "pod  ", "pod  a", "pod x ", "unpod a ")
	refuses(t, api.ErrCount, "pod 0 a b", "pod 0  a", "pod 0 a ", "pod 0")
}

// Addresses as addr.Parse reads them.
func TestP20_1Addresses(t *testing.T) {
	for word, a := range map[string]api.Addr{"0.0.0.0": 0, "255.255.255.255": math.MaxUint32, "10.5.1.2": quad(10, 5, 1, 2), "1.2.3.4": quad(1, 2, 3, 4), "192.0.2.10": quad(192, 0, 2, 10)} {
		reads(t, "holder "+word, api.Act{Kind: api.ActHolder, Addr: a})
	}
	for _, word := range []string{"", "-", "x", "0", "10.5.1", "10.5.1.", ".10.5.1", "10.5.1.2.3", "10.5.1.2.", "10.5.1.02", "10.5.1.256", "10.5.1.-1", "10.5.1.+1", "10..1.2", "10.5.1.2/24", "0x0a.5.1.2", "a05.1.2", "::1", "::ffff:10.5.1.2", "10.5.1.2\t", "10.5.1.２", "10,5,1,2", "10.5.1.99999999999999999999", "4294967295"} {
		refuses(t, api.ErrAddr, "holder "+word)
	}
}

// The errors' order: argument by argument, from the left.
func TestP20_1FromTheLeft(t *testing.T) {
	refuses(t, api.ErrNumber, "spoil x 1 zz", "spoil 1 x zz", "spoil x y zz", "spoil x y ff", "step x y", "step x 1", "step 1 x", "pod x ", "unpod x ", "send x zz", "raw  z", "spoil 9223372036854775808 0 f")
	refuses(t, api.ErrHex, "spoil 1 1 zz", "send 0 zz", "raw 0 z")
	refuses(t, api.ErrName, "pod 1 ")
}

// Each line with one byte changed, put in or left out, against the model.
func TestP20_1Neighbours(t *testing.T) {
	for _, r := range rows() {
		for _, line := range neighbours(sampleLine(r)) {
			checkParse(t, line)
		}
	}
}

// neighbours is each text that one byte changed, put in or left out makes of s, and s itself.
func neighbours(s string) []string {
	list := []string{s}
	for i := range len(s) + 1 {
		for c := range 256 {
			list = append(list, s[:i]+string([]byte{byte(c)})+s[i:])
			if i < len(s) {
				list = append(list, s[:i]+string([]byte{byte(c)})+s[i+1:])
			}
		}
		if i < len(s) {
			list = append(list, s[:i]+s[i+1:])
		}
	}
	return list
}

// checkParse holds ParseAct against the model, and a line that it takes against FormatAct.
func checkParse(t *testing.T, line string) {
	t.Helper()
	want, wantErr := modelParse(line)
	if wantErr != api.OK {
		refuses(t, wantErr, line)
		return
	}
	reads(t, line, want)
	if again, err := FormatAct(want); err != api.OK || again != line {
		t.Errorf("P20.2: FormatAct(%s) = %s, %d, want %s", brief(want), brief(again), err, brief(line))
	}
}

// Lines by dice: words of the table, and all kinds of arguments, with what does not belong there.
func TestP20_1AnyLine(t *testing.T) {
	r := dice(1)
	all := rows()
	arguments := []string{"0", "1", "-1", "7", "256", "-9223372036854775808", "9223372036854775807", "9223372036854775808", "00", "-", "", "ff", "0a0b", "f", "FF", "a", "web", "%", "10.5.1.2", "10.5.1", "+1", "\xff", "\n", "٣"}
	taken := 0
	for range 60000 {
		row := all[r.Intn(len(all))]
		words := []string{row.word}
		for _, name := range row.fields {
			if r.Intn(3) == 0 {
				words = append(words, pick(r, arguments...))
				continue
			}
			words = append(words, sample[name])
		}
		switch r.Intn(12) {
		case 0:
			words = append(words, pick(r, arguments...))
		case 1:
			words = words[:len(words)-1]
		case 2:
			words[r.Intn(len(words))] = pick(r, arguments...)
		}
		line := strings.Join(words, " ")
		checkParse(t, line)
		if _, err := ParseAct(line); err == api.OK {
			taken++
		}
	}
	if taken < 1000 {
		t.Errorf("only %d lines were taken", taken)
	}
}

package shell

import (
	"encoding/hex"
	"fmt"
	"math/rand"
	"runtime"
	"slices"
	"sort"
	"strings"
	"testing"

	"weft/api"
	"weft/conf"
	"weft/ip4"
)

// packet is the digits of a packet between two pods, with a body of n bytes.
func packet(t *testing.T, src, dst api.Addr, ttl byte, n int) string {
	t.Helper()
	b, err := ip4.Build(api.Packet{Head: api.Head{TTL: ttl, Proto: 17, Src: src, Dst: dst}, Body: make([]byte, n)})
	if err != api.OK {
		t.Fatalf("no packet: %d", err)
	}
	return hex.EncodeToString(b)
}

// checkPlay holds Play against the model.
func checkPlay(t *testing.T, conf, script string) (string, int, api.Errno) {
	t.Helper()
	got, line, err := Play(conf, script)
	want, wantLine, wantErr := modelPlay(conf, script)
	if got != want || line != wantLine || err != wantErr {
		t.Fatalf("P20.5: Play(%s, %s) = %s, %d, %d, want %s, %d, %d", brief(conf), brief(script), brief(got), line, err, brief(want), wantLine, wantErr)
	}
	return got, line, err
}

// flights is the transcript of n acts flight of a new world.
func flights(n int) string { return strings.Repeat("> flight\n"+zeroLine, n) }

func TestP20_5Lines(t *testing.T) {
	c := config(1)
	// Nothing to play.
	for _, s := range []string{"", "\n", "\n\n\n", "#", "#\n", "# flight", "##\n#\n\n# tick x\n", "\n#", "#\x00\xff\r\n"} {
		plays(t, c, s, "")
	}
	// With and without a newline at the end, with notes and empty lines in all places.
	for _, s := range []string{"flight", "flight\n", "flight\n\n", "\nflight", "#\nflight", "flight\n#", "flight\n# flight\n", "\n\n# a\n\nflight\n\n#b\n"} {
		plays(t, c, s, flights(1))
	}
	for _, s := range []string{"flight\nflight", "flight\nflight\n", "flight\n\nflight\n", "#\nflight\n#flight\nflight\n#"} {
		plays(t, c, s, flights(2))
	}
	// A note begins at a line's first byte alone; a newline is the byte 10 alone.
	playsNot(t, c, " #", 1, api.ErrWord)
	playsNot(t, c, "flight #", 1, api.ErrCount)
	playsNot(t, c, "flight\n \nflight", 2, api.ErrWord)
	playsNot(t, c, "flight\r\nflight\r\n", 1, api.ErrWord)
	playsNot(t, c, "tick 5\r\n", 1, api.ErrNumber)
	playsNot(t, c, "flight\rflight", 1, api.ErrWord)
	playsNot(t, c, "flight\n\t\n", 2, api.ErrWord)
	playsNot(t, c, "flight\n\x00\n", 2, api.ErrWord)
	playsNot(t, c, "flight\u2028flight", 1, api.ErrWord)
}

// The first refused line at the top, in the midst, at the end; with each of the errors of a line.
func TestP20_5Refused(t *testing.T) {
	c := config(1)
	for bad, err := range map[string]api.Errno{"x": api.ErrWord, "tick": api.ErrCount, "tick x": api.ErrNumber, "send 0 x": api.ErrHex, "pod 0 ": api.ErrName, "holder 1": api.ErrAddr, "pod 0 " + strings.Repeat("a", api.MaxLine): api.ErrLong} {
		for _, end := range []string{"", "\n", "\n\n", "\n#"} {
			playsNot(t, c, bad+end, 1, err)
			playsNot(t, c, bad+"\nflight"+end, 1, err)
			playsNot(t, c, "flight\n"+bad+"\nflight"+end, 2, err)
			playsNot(t, c, "flight\n\n# x\n"+bad+end, 4, err)
			playsNot(t, c, "\n\n\n"+bad+"\n\nx"+end, 4, err)
			// The first from the top, not one of another rank.
			for _, other := range []string{"x", "tick", "tick x", "send 0 x", "pod 0 ", "holder 1"} {
				playsNot(t, c, "flight\n"+bad+"\n"+other+end, 2, err)
			}
		}
	}
	// A line of MaxLine bytes is read, one of one more refused; a note may be longer.
	name := strings.Repeat("a", api.MaxLine-6)
	plays(t, c, "pod 0 "+name, "> pod 0 "+name+"\nerr 191 n 0 verdict 0 why 0 req 0\n")
	playsNot(t, c, "flight\npod 0 "+name+"a\n", 2, api.ErrLong)
	plays(t, c, "#"+strings.Repeat("x", api.MaxLine+50)+"\nflight", flights(1))
	// What the world refuses is no refused line.
	plays(t, c, "view 1\ntick -1\ndeliver 0\n", "> view 1\nerr 190 n 0 verdict 0 why 0 req 0\n> tick -1\nerr 1 n 0 verdict 0 why 0 req 0\n> deliver 0\nerr 3 n 0 verdict 0 why 0 req 0\n")
}

// Scripts of MaxScript bytes, and of one more.
func TestP20_5LongScript(t *testing.T) {
	c := config(1)
	for _, s := range []string{"\n", "#", "#a\n"} {
		full := strings.Repeat(s, api.MaxScript)[:api.MaxScript]
		plays(t, c, full, "")
		plays(t, c, "flight\n#"+full[8:], flights(1))
		playsNot(t, c, full+"\n", 0, api.ErrLong)
		playsNot(t, c, full+full, 0, api.ErrLong)
	}
	plays(t, c, strings.Repeat("\n", api.MaxScript-6)+"flight", flights(1))
	playsNot(t, c, strings.Repeat("\n", api.MaxScript-1)+"x", api.MaxScript, api.ErrWord)
	// It goes ahead of a refused line and of a refused configuration, which goes ahead of a refused line.
	playsNot(t, c, "x\n"+strings.Repeat("\n", api.MaxScript-1), 0, api.ErrLong)
	playsNot(t, "", strings.Repeat("\n", api.MaxScript+1), 0, api.ErrLong)
	playsNot(t, "", strings.Repeat("\n", api.MaxScript), 0, api.ErrSyntax)
	playsNot(t, "", "x", 0, api.ErrSyntax)
}

// A configuration that conf.Load refuses, whatever the script.
func TestP20_5Configuration(t *testing.T) {
	for text, want := range map[string]api.Errno{
		"": api.ErrSyntax, "[]": api.ErrKind, "{}": api.ErrMissing, config(0): api.ErrValue, config(65): api.ErrValue, config(1, `"hosts":1`): api.ErrKey, config(1, `"x":1`): api.ErrKey, config(1, `"mtu":"x"`): api.ErrKind,
		config(1, `"mtu":125`): api.ErrValue, config(1, `"reserved":[{}]`): api.ErrMissing, config(1, `"max":"10.5.0.0"`): api.ErrPool, "\"\xff\"": api.ErrText, strings.Repeat("[", 17): api.ErrDeep, strings.Repeat(" ", api.MaxText+1): api.ErrLong, "[" + strings.Repeat("1,", 1024) + "1]": api.ErrNodes,
	} {
		if _, err := conf.Load(text); err != want {
			t.Fatalf("Load(%s) = %d, want %d", brief(text), err, want)
		}
		for _, s := range []string{"", "calm", "x", "tick\n", strings.Repeat("flight\n", 1025)} {
			playsNot(t, text, s, 0, want)
		}
	}
	// Others are played with what they say.
	plays(t, config(2), "view 1", "> view 1\n"+zeroLine)
	playsOther, _, err := Play(config(1, `"reserved":[{"host":0,"subnet":"10.5.9.0/24"}]`), "calm\nleases")
	if err != api.OK || !strings.Contains(playsOther, "lease 0 10.5.9.0/24 ") {
		t.Errorf("P20.5: a reserved subnet: %s, %d", brief(playsOther), err)
	}
	plays(t, "\n "+config(1)+" \n", "flight", flights(1))
}

// 1024 acts, 1025, and a refused line as the 1025th act.
func TestP20_5Acts(t *testing.T) {
	c := config(1)
	most := strings.Repeat("flight\n", api.MaxActs)
	plays(t, c, most, flights(1024))
	plays(t, c, strings.TrimSuffix(most, "\n"), flights(1024))
	plays(t, c, "# a\n\n"+most+"\n\n# b\n#c", flights(1024))
	plays(t, c, strings.Repeat("#\nflight\n\n", api.MaxActs), flights(1024))
	playsNot(t, c, most+"flight", 1025, api.ErrLong)
	playsNot(t, c, most+"flight\n", 1025, api.ErrLong)
	playsNot(t, c, most+"x", 1025, api.ErrLong)
	playsNot(t, c, most+"tick x\nx\n", 1025, api.ErrLong)
	playsNot(t, c, most+" ", 1025, api.ErrLong)
	playsNot(t, c, most+"\n# a\n\nflight\nflight\nx", 1028, api.ErrLong)
	playsNot(t, c, "\n\n\n"+most+"x", 1028, api.ErrLong)
	playsNot(t, c, most+most, 1025, api.ErrLong)
	// A refused line ahead of it is told as such.
	playsNot(t, c, "x\n"+most+most, 1, api.ErrWord)
	playsNot(t, c, strings.TrimSuffix(most, "flight\n")+"x\nflight\n", 1024, api.ErrWord)
	playsNot(t, c, strings.TrimSuffix(most, "flight\n")+"x\nflight\nflight", 1024, api.ErrWord)
}

// swollen is a script whose transcript has just so many bytes: ever more packets in flight are told, the rest is a name's. The number is that of its last line.
func swollen(t *testing.T, c string, size int) (string, int) {
	t.Helper()
	base := []string{"calm", "send 0 " + packet(t, quad(10, 5, 1, 2), quad(10, 5, 2, 2), 64, 60)}
	told := func(n int) ([]string, int) {
		lines := slices.Clone(base)
		for range n {
			lines = append(lines, "copy 0", "flight")
		}
		s, _, err := Play(c, script(lines...))
		if err != api.OK {
			return lines, size
		}
		return lines, len(s)
	}
	n := sort.Search(400, func(n int) bool { _, length := told(n); return length > size-100 })
	lines, length := told(n - 1)
	const ahead, behind = "> pod 7 ", "\nerr 190 n 0 verdict 0 why 0 req 0\n"
	rest := size - length - len(ahead) - len(behind)
	if rest < 1 || rest > api.MaxLine-10 {
		t.Fatalf("no name fits: %d", rest)
	}
	lines = append(lines, "# the last", "pod 7 "+strings.Repeat("n", rest))
	return script(lines...), len(lines)
}

// A transcript of just 4194304 bytes, and of more.
func TestP20_5LongTranscript(t *testing.T) {
	const most = 4194304
	c := config(2)
	s, last := swollen(t, c, most)
	got, line, err := Play(c, s)
	if len(got) != most || line != 0 || err != api.OK {
		t.Fatalf("P20.5: %d bytes, %d, %d", len(got), line, err)
	}
	if want, _, _ := modelPlay(c, s); got != want {
		t.Errorf("P20.5: a transcript of %d bytes is another", most)
	}
	plays(t, c, s+"\n# more\n", got)
	// One byte more goes beyond, in the last act, and so does another act behind it.
	more := strings.TrimSuffix(s, "\n") + "n\n"
	playsNot(t, c, more, last, api.ErrLong)
	playsNot(t, c, more+"flight\nleases\n", last, api.ErrLong)
	playsNot(t, c, s+"leases", last+1, api.ErrLong)
	playsNot(t, c, s+"\n\nleases\nleases\n", last+3, api.ErrLong)
	playsNot(t, c, "# ahead\n"+more, last+1, api.ErrLong)
	// One byte less leaves room for nothing else.
	less := s[:len(s)-2] + "\n"
	plays(t, c, less, strings.Replace(got, "nn\nerr 190 ", "n\nerr 190 ", 1))
	playsNot(t, c, less+"calm\n", last+1, api.ErrLong)
	// A refused line, wherever it stands, goes ahead: nothing is played then.
	playsNot(t, c, more+"x", last+1, api.ErrWord)
	playsNot(t, c, s+"flight\nflight\ntick\n", last+3, api.ErrCount)
}

// A text that is much too long is given up at once: replies of gigabytes are not gathered.
func TestP20_5LongIsCheap(t *testing.T) {
	c := config(2, `"mtu":9000`)
	s := script("calm", "send 0 "+packet(t, quad(10, 5, 1, 2), quad(10, 5, 2, 2), 64, 8900)) + strings.Repeat("copy 0\n", 500) + strings.Repeat("flight\n", 500)
	var before, behind runtime.MemStats
	runtime.ReadMemStats(&before)
	playsNot(t, c, s, 503, api.ErrLong)
	runtime.ReadMemStats(&behind)
	if n := behind.TotalAlloc - before.TotalAlloc; n > 1<<28 {
		t.Errorf("P20.5: %d bytes of memory for a transcript that is not told", n)
	}
}

// Every act in one script, against the model.
func TestP20_5Tour(t *testing.T) {
	p := packet(t, quad(10, 5, 1, 2), quad(10, 5, 2, 2), 64, 30)
	long := packet(t, quad(10, 5, 1, 2), quad(10, 5, 2, 2), 64, 5000)
	lines := []string{
		"view 0", "step 0 1", "round 2", "calm", "pod 0 cli", "pod 1 web", "pod 2 A", "send 0 " + p, "copy 0", "spoil 1 40 01", "flight", "deliver 0", "lose 0", "send 0 " + long, "flight", "flush 9", "raw 1 " + p, "raw 1 -",
		"counts 0", "counts 1", "counts 3", "tables 1", "view 1", "pods 1", "leases", "holder 10.5.2.7", "holder 1.2.3.4", "disk", "fail 0", "mute 1", "tick 85", "round 3", "crash 2", "view 2", "start 2", "start 2", "reboot 1", "pods 1", "revoke 0",
		"tear 3", "tick 1", "disk", "leases", "reopen", "leases", "calm", "view 0", "unpod 0 cli", "unpod 0 cli", "flight", "disk",
	}
	words := map[string]bool{}
	for _, line := range lines {
		word, _, _ := strings.Cut(line, " ")
		words[word] = true
	}
	if len(words) != 29 {
		t.Fatalf("%d kinds of acts", len(words))
	}
	for _, c := range []string{config(3), config(3, `"mtu":200`), config(1), config(5, `"routes":2`, `"neighs":1`, `"room":1`)} {
		if _, line, err := checkPlay(t, c, script(lines...)); err != api.OK {
			t.Errorf("P20.5: %d, %d", line, err)
		}
	}
	// The acts' lines are told as they stand.
	got, _, _ := Play(config(3), script(lines...))
	var told []string
	for _, line := range strings.Split(got, "\n") {
		if act, ok := strings.CutPrefix(line, "> "); ok {
			told = append(told, act)
		}
	}
	if !slices.Equal(told, lines) {
		t.Errorf("P20.5: the acts told are %s", brief(told))
	}
}

// anyLine is a line of a script by dice: mostly an act that may be.
func anyLine(r *rand.Rand, packets []string) string {
	host := fmt.Sprint(r.Intn(3))
	place := fmt.Sprint(r.Intn(2))
	switch r.Intn(24) {
	case 0:
		return ""
	case 1:
		return "# " + anyName(r)
	case 2, 3:
		return "pod " + host + " " + pick(r, "a", "b", "Web", "\xff", "%")
	case 4:
		return "unpod " + host + " " + pick(r, "a", "b")
	case 5, 6:
		return "send " + host + " " + pick(r, packets...)
	case 7:
		return pick(r, "deliver ", "lose ", "copy ") + place
	case 8:
		return "spoil " + place + " " + fmt.Sprint(r.Intn(80)) + " " + pick(r, "01", "80", "-", "ff00")
	case 9:
		return "flush " + fmt.Sprint(r.Intn(5))
	case 10:
		return "tick " + fmt.Sprint(r.Intn(60)-1)
	case 11:
		return pick(r, "crash ", "start ", "reboot ", "fail ", "mute ", "revoke ") + host
	case 12, 13:
		return pick(r, "tables ", "view ", "pods ", "counts ") + host
	case 14:
		return pick(r, "leases", "flight", "disk", "holder 10.5.1.9", "holder 10.5.0.0")
	case 15:
		return "tear " + fmt.Sprint(r.Intn(60))
	case 16:
		return pick(r, "reopen", "calm")
	case 17, 18, 19:
		return "round " + fmt.Sprint(r.Intn(9))
	}
	return "step " + host + " " + fmt.Sprint(1+r.Intn(4))
}

// Scripts by dice, against the model; some have a line that is refused.
func TestP20_5AnyScript(t *testing.T) {
	r := dice(5)
	packets := []string{
		"-", "00", packet(t, quad(10, 5, 1, 2), quad(10, 5, 2, 2), 64, 9), packet(t, quad(10, 5, 2, 2), quad(10, 5, 1, 2), 2, 9), packet(t, quad(10, 5, 1, 2), quad(10, 5, 1, 3), 64, 9),
		packet(t, quad(10, 5, 1, 2), quad(10, 9, 0, 1), 64, 9), packet(t, quad(10, 5, 3, 2), quad(10, 5, 2, 2), 64, 300), packet(t, quad(10, 5, 3, 2), quad(10, 5, 2, 1), 64, 3),
	}
	refused := 0
	for range 300 {
		var lines []string
		for range 1 + r.Intn(80) {
			lines = append(lines, anyLine(r, packets))
		}
		if r.Intn(4) == 0 {
			lines[r.Intn(len(lines))] = pick(r, "x", "tick", "tick 01", "send 0 0", "pod 0 ", "holder", "holder x", " ", "calm ")
		}
		s := strings.Join(lines, "\n") + pick(r, "", "\n", "\n\n")
		if _, _, err := checkPlay(t, config(1+r.Intn(3), `"mtu":`+fmt.Sprint(126+r.Intn(300))), s); err != api.OK {
			refused++
		}
	}
	if refused < 30 || refused > 150 {
		t.Errorf("%d scripts of 300 were refused", refused)
	}
}

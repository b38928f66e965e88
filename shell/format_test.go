package shell

import (
	"math"
	"math/rand"
	"runtime"
	"slices"
	"strings"
	"testing"

	"weft/api"
)

// allFields is the names of an act's fields, but for Kind.
var allFields = []string{"Host", "N", "At", "Name", "Bytes", "Addr"}

func TestP20_2EveryKind(t *testing.T) {
	for _, r := range rows() {
		writes(t, sampleAct(r), sampleLine(r))
		// With nothing in its fields it is a line as well, but for a name.
		zero := api.Act{Kind: r.kind}
		if slices.Contains(r.fields, "Name") {
			writesNot(t, api.ErrName, zero)
			continue
		}
		want := r.word
		for _, name := range r.fields {
			want += map[string]string{"Host": " 0", "N": " 0", "At": " 0", "Bytes": " -", "Addr": " 0.0.0.0"}[name]
		}
		writes(t, zero, want)
	}
}

func TestP20_2NoKind(t *testing.T) {
	for _, kind := range []int{0, 30, 31, -1, -29, 256 + 4, math.MinInt, math.MaxInt, 1<<32 + 4} {
		writesNot(t, api.ErrArg, api.Act{Kind: kind}, full(kind), api.Act{Kind: kind, Name: "a b"}, api.Act{Kind: kind, Name: strings.Repeat("a", api.MaxLine)})
	}
}

// Each field that a line does not name, set alone.
func TestP20_2OtherFields(t *testing.T) {
	for _, r := range rows() {
		for _, name := range allFields {
			if slices.Contains(r.fields, name) {
				continue
			}
			for _, more := range others(name) {
				// Beside what the line names, and beside nothing.
				for _, a := range []api.Act{sampleAct(r), {Kind: r.kind}} {
					field(&a, name).Set(field(&more, name))
					writesNot(t, api.ErrArg, a)
				}
			}
		}
		if len(r.fields) < len(allFields) {
			writesNot(t, api.ErrArg, full(r.kind))
		}
	}
}

// others is acts in which that field is not zero.
func others(name string) []api.Act {
	switch name {
	case "Name":
		return []api.Act{{Name: "a"}, {Name: " "}, {Name: "\n"}, {Name: strings.Repeat("a", api.MaxLine+1)}}
	case "Bytes":
		return []api.Act{{Bytes: []byte{0}}, {Bytes: []byte{1, 2}}, {Bytes: make([]byte, api.MaxLine)}}
	case "Addr":
		return []api.Act{{Addr: 1}, {Addr: math.MaxUint32}, {Addr: 1 << 31}}
	}
	return []api.Act{{Host: 1, N: 1, At: 1}, {Host: -1, N: -1, At: -1}, {Host: math.MinInt, N: math.MinInt64, At: math.MinInt}, {Host: 1 << 32, N: 1 << 32, At: 1 << 32}}
}

// An empty list of bytes is none, named or not.
func TestP20_2EmptyBytes(t *testing.T) {
	for _, r := range rows() {
		for _, b := range [][]byte{nil, {}, make([]byte, 0, 9)} {
			a := sampleAct(r)
			a.Bytes = b
			line := r.word
			for _, name := range r.fields {
				if name == "Bytes" {
					line += " -"
					continue
				}
				line += " " + sample[name]
			}
			writes(t, a, line)
		}
	}
}

func TestP20_2Names(t *testing.T) {
	for _, kind := range []int{api.ActPod, api.ActUnpod} {
		word := map[int]string{api.ActPod: "pod", api.ActUnpod: "unpod"}[kind]
		for c := range 256 {
			for _, name := range []string{string([]byte{byte(c)}), string([]byte{'a', byte(c)}), string([]byte{byte(c), 'a'}), string([]byte{'a', byte(c), 'a'}), string([]byte{0xe2, byte(c)})} {
				a := api.Act{Kind: kind, Host: 1, Name: name}
				if c == 10 || c == 32 {
					writesNot(t, api.ErrName, a)
					continue
				}
				writes(t, a, word+" 1 "+name)
			}
		}
		for _, name := range []string{"", " ", "\n", "a b", "a\nb", "a ", " a", "a\n", "\na", "\xff ", "é\n", "日 本", strings.Repeat("a", 99) + " "} {
			writesNot(t, api.ErrName, api.Act{Kind: kind, Name: name}, api.Act{Kind: kind, Host: -1, Name: name})
			// What the line does not name goes ahead of it.
			writesNot(t, api.ErrArg, api.Act{Kind: kind, N: 1, Name: name}, api.Act{Kind: kind, At: 1, Name: name}, api.Act{Kind: kind, Addr: 1, Name: name}, api.Act{Kind: kind, Bytes: []byte{1}, Name: name})
		}
	}
}

func TestP20_2Numbers(t *testing.T) {
	for n, word := range map[int64]string{0: "0", 1: "1", -1: "-1", 10: "10", -100: "-100", math.MaxInt64: "9223372036854775807", math.MinInt64: "-9223372036854775808", 1 << 32: "4294967296"} {
		writes(t, api.Act{Kind: api.ActTick, N: n}, "tick "+word)
		writes(t, api.Act{Kind: api.ActView, Host: int(n)}, "view "+word)
		writes(t, api.Act{Kind: api.ActLose, At: int(n)}, "lose "+word)
		writes(t, api.Act{Kind: api.ActSpoil, At: int(n), N: n}, "spoil "+word+" "+word+" -")
		writes(t, api.Act{Kind: api.ActStep, Host: int(n), N: -1}, "step "+word+" -1")
	}
}

func TestP20_2BytesAndAddresses(t *testing.T) {
	for c := range 256 {
		want := "send 0 " + string([]byte{hexDigits[c>>4], hexDigits[c&15]})
		writes(t, api.Act{Kind: api.ActSend, Bytes: []byte{byte(c)}}, want)
		writes(t, api.Act{Kind: api.ActHolder, Addr: quad(c, 255-c, c, 0)}, "holder "+modelAddr(quad(c, 255-c, c, 0)))
	}
	writes(t, api.Act{Kind: api.ActRaw, Bytes: []byte{0, 1, 0x20, 0xab}}, "raw 0 000120ab")
	writes(t, api.Act{Kind: api.ActHolder, Addr: math.MaxUint32}, "holder 255.255.255.255")
}

// A line that is just MaxLine bytes long, and one that is longer.
func TestP20_2Long(t *testing.T) {
	for _, c := range []struct {
		ahead string
		kind  int
		host  int
	}{{"pod 0 ", api.ActPod, 0}, {"unpod -12 ", api.ActUnpod, -12}, {"pod 9223372036854775807 ", api.ActPod, math.MaxInt}} {
		name := strings.Repeat("é", api.MaxLine)[:api.MaxLine-len(c.ahead)]
		writes(t, api.Act{Kind: c.kind, Host: c.host, Name: name}, c.ahead+name)
		writes(t, api.Act{Kind: c.kind, Host: c.host, Name: name[1:]}, c.ahead+name[1:])
		writesNot(t, api.ErrLong, api.Act{Kind: c.kind, Host: c.host, Name: name + "a"}, api.Act{Kind: c.kind, Host: c.host, Name: name + name})
		// A name that may not be goes ahead of a long line.
		writesNot(t, api.ErrName, api.Act{Kind: c.kind, Host: c.host, Name: name + " "}, api.Act{Kind: c.kind, Host: c.host, Name: name + "\n" + name})
	}
	for _, c := range []struct {
		ahead string
		act   api.Act
	}{{"send 0 ", api.Act{Kind: api.ActSend}}, {"send 10 ", api.Act{Kind: api.ActSend, Host: 10}}, {"raw 0 ", api.Act{Kind: api.ActRaw}}, {"raw 12 ", api.Act{Kind: api.ActRaw, Host: 12}}, {"spoil 1 2 ", api.Act{Kind: api.ActSpoil, At: 1, N: 2}}, {"spoil 1 20 ", api.Act{Kind: api.ActSpoil, At: 1, N: 20}}} {
		most := (api.MaxLine - len(c.ahead)) / 2
		for n := most - 2; n < most+8; n++ {
			a := c.act
			a.Bytes = []byte(strings.Repeat("\x9a", n))
			if n > most {
				writesNot(t, api.ErrLong, a)
				continue
			}
			writes(t, a, c.ahead+strings.Repeat("9a", n))
		}
		a := c.act
		for _, n := range []int{api.MaxLine / 2, api.MaxLine/2 + 1, api.MaxLine, 10 * api.MaxLine} {
			a.Bytes = make([]byte, n)
			writesNot(t, api.ErrLong, a)
		}
	}
}

// Bytes for which no line has room are not laid out.
func TestP20_2LongIsCheap(t *testing.T) {
	a := api.Act{Kind: api.ActSend, Bytes: make([]byte, 1<<26)}
	var before, behind runtime.MemStats
	runtime.ReadMemStats(&before)
	writesNot(t, api.ErrLong, a)
	runtime.ReadMemStats(&behind)
	if n := behind.TotalAlloc - before.TotalAlloc; n > 1<<20 {
		t.Errorf("P20.2: %d bytes of memory for a line that is not written", n)
	}
}

// anyAct is an act by dice: mostly one that has a line.
func anyAct(r *rand.Rand) api.Act {
	a := api.Act{Kind: 1 + r.Intn(29)}
	if r.Intn(30) == 0 {
		a.Kind = r.Intn(40) - 5
	}
	named := []string{}
	if a.Kind >= 1 && a.Kind <= 29 {
		named = rows()[a.Kind-1].fields
	}
	for _, name := range allFields {
		if slices.Contains(named, name) && r.Intn(20) > 0 || r.Intn(60) == 0 {
			setAny(r, &a, name)
		}
	}
	return a
}

// setAny puts something into a field.
func setAny(r *rand.Rand, a *api.Act, name string) {
	switch name {
	case "Name":
		a.Name = anyName(r)
	case "Bytes":
		a.Bytes = anyBytes(r)
	case "Addr":
		a.Addr = api.Addr(r.Uint32())
	default:
		field(a, name).SetInt(anyNumber(r))
	}
}

func anyNumber(r *rand.Rand) int64 {
	switch r.Intn(4) {
	case 0:
		return pick[int64](r, 0, 1, -1, math.MaxInt64, math.MinInt64, math.MaxInt64-1, math.MinInt64+1, 1<<31, 1<<32, -1<<31)
	case 1:
		return r.Int63() - r.Int63()
	}
	return int64(r.Intn(300)) - 20
}

func anyName(r *rand.Rand) string {
	if r.Intn(3) == 0 {
		b := make([]byte, r.Intn(6))
		r.Read(b)
		return string(b)
	}
	return pick(r, "web", "a", "a-9", "-", "0", "", " ", "a b", "\n", "A", "%", "%41", "é", "_", "a\xff")
}

func anyBytes(r *rand.Rand) []byte {
	b := make([]byte, r.Intn(5), 8)
	r.Read(b)
	return b
}

// Acts by dice, against the model; parse of print is the act again.
func TestP20_2AnyAct(t *testing.T) {
	r := dice(2)
	taken := 0
	for range 60000 {
		a := anyAct(r)
		want, wantErr := modelFormat(a)
		if wantErr != api.OK {
			writesNot(t, wantErr, a)
			continue
		}
		writes(t, a, want)
		taken++
	}
	if taken < 10000 {
		t.Errorf("only %d acts had a line", taken)
	}
}

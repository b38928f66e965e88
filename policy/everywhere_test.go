package policy

import (
	"fmt"
	"math"
	"strings"
	"sync"
	"testing"

	"weft/api"
)

// P0.1, P0.2, P0.5: any arguments, and answers that hang on nothing else.

// Any bytes as a text.
func TestP0_1AnyBytes(t *testing.T) {
	r := dice()
	for range 3000 {
		b := make([]byte, r.Intn(60))
		r.Read(b)
		asked(t, string(b))
		for i := range b {
			b[i] = pick(r, []byte("\n\n  ##adcfgt015-./\t\r\x00\xff\xc3")...)
		}
		asked(t, string(b))
	}
}

// Any words of the chapter, one behind the other.
func TestP0_1AnyWords(t *testing.T) {
	r := dice()
	words := strings.Fields("default chain accept drop reject return jump in out a b web from to proto sport dport state new known tcp udp icmp 0 6 17 255 256 80 80-443 5-4 10.0.0.0/8 0.0.0.0/0 10.0.0.1/8 # -")
	seen := map[api.Errno]int{}
	for range 20000 {
		text := pick(r, "chain in", "chain a", "", "chain in\ndrop")
		for range 1 + r.Intn(4) {
			text += "\n"
			for range pick(r, 1, 1, 2, 3, 3, 4, 5) {
				text += pick(r, words...) + " "
			}
		}
		b, ok := asked(t, text)
		if ok {
			b.check()
		}
		_, _, err := Parse(text)
		seen[err]++
	}
	if seen[api.OK] < 50 || seen[api.ErrRule] < 5000 || seen[api.ErrChain] < 10 {
		t.Errorf("the test's own texts: %v", seen)
	}
}

// Any packet is judged.
func TestP0_1AnyPacket(t *testing.T) {
	r := dice()
	b := taken(t, web, "default out drop", "chain out", "accept from 255.255.255.255/32", "reject sport 65535 dport 0", "jump web state known")
	for range 20000 {
		m := match(r.Intn(2) == 0, r.Intn(2) == 0, api.Addr(r.Uint32()), api.Addr(r.Uint32()), byte(r.Int()), uint16(r.Int()), uint16(r.Int()))
		b.judge(m)
		b.judge(anyMatch(r))
	}
	for _, n := range []uint64{0, math.MaxUint64} {
		for k := range 4 {
			b.judge(match(k&1 == 1, k&2 == 2, api.Addr(n), api.Addr(n), byte(n), uint16(n), uint16(n)))
		}
	}
}

// Two policies and more, in turns: none knows of another one.
func TestP0_5InTurns(t *testing.T) {
	r := dice()
	var list []both
	for len(list) < 8 {
		if b, ok := asked(t, anyPolicy(r, 8)); ok && b.m.cells() < 1000 {
			list = append(list, b)
		}
	}
	for range 4000 {
		list[r.Intn(len(list))].judge(anyMatch(r))
	}
	for range 40 {
		list[r.Intn(len(list))].check()
	}
}

// told is all that a text's policy answers.
func told(text string) string {
	p, line, err := Parse(text)
	if err != api.OK {
		return fmt.Sprint(line, err)
	}
	list, err := p.Dead()
	s := fmt.Sprint(p.Text(), list, err)
	for n := range 30 {
		m, err := p.Witness(n)
		action, by := p.Judge(m)
		s += fmt.Sprint(m, err, action, by)
	}
	return s
}

// The same calls are answered alike, in whichever goroutine.
func TestP0_5SameCallsSameAnswers(t *testing.T) {
	r := dice()
	var texts []string
	for range 40 {
		texts = append(texts, anyPolicy(r, 6))
	}
	answers := make([][]string, 8)
	var wg sync.WaitGroup
	for i := range answers {
		wg.Go(func() {
			for _, text := range texts {
				answers[i] = append(answers[i], told(text))
			}
		})
	}
	wg.Wait()
	for _, a := range answers[1:] {
		for k := range texts {
			if a[k] != answers[0][k] {
				t.Fatalf("P0.5: %q, then %q", answers[0][k], a[k])
			}
		}
	}
}

// A policy changes by no call, so goroutines may share it.
func TestP0_5Shared(t *testing.T) {
	b := taken(t, web)
	want := told(web)
	var wg sync.WaitGroup
	for range 8 {
		wg.Go(func() {
			r := dice()
			for range 20 {
				b.r.Dead()
				b.r.Text()
				b.r.Judge(anyMatch(r))
				b.r.Witness(r.Intn(12))
			}
		})
	}
	wg.Wait()
	b.check()
	if told(b.m.text()) == "" || told(web) != want {
		t.Error("P0.5: the same text is answered otherwise")
	}
}

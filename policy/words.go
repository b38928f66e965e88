package policy

import "weft/api"

// The actions. What decides has the number that package api gives it.
const (
	accept = api.Accept + iota
	drop
	reject
	jump
	goBack
)

// The fields of a packet that conditions are on, in the order in which a rule's conditions are written.
const (
	onSrc = iota
	onDst
	onProto
	onSrcPort
	onDstPort
	onState
	fields // one above the last
)

// The states of a packet's flow.
const (
	fresh = iota
	known
)

// The ways of a packet.
const (
	inward = iota
	outward
	ways // one above the last
)

// The kinds of words.
const (
	anAction = iota
	aCondition
	aProtocol
	aState
	aWay
)

// The first words of lines that are no rules.
const (
	wordDefault = "default"
	wordChain   = "chain"
	note        = "#"
)

const (
	maxName = 16
	blank   = " "
	newline = "\n"
)

// words is what each word stands for, by its kind. A way's word is also the name of the chain that its packets begin in.
var words = [...]struct {
	text         string
	kind, number int
}{
	{"accept", anAction, accept},
	{"drop", anAction, drop},
	{"reject", anAction, reject},
	{"jump", anAction, jump},
	{"return", anAction, goBack},
	{"from", aCondition, onSrc},
	{"to", aCondition, onDst},
	{"proto", aCondition, onProto},
	{"sport", aCondition, onSrcPort},
	{"dport", aCondition, onDstPort},
	{"state", aCondition, onState},
	{"tcp", aProtocol, api.ProtoTCP},
	{"udp", aProtocol, api.ProtoUDP},
	{"icmp", aProtocol, api.ProtoICMP},
	{"new", aState, fresh},
	{"known", aState, known},
	{"in", aWay, inward},
	{"out", aWay, outward},
}

// meaning is the number that a word of that kind stands for.
func meaning(kind int, text string) (int, bool) {
	for _, w := range words {
		if w.kind == kind && w.text == text {
			return w.number, true
		}
	}
	return 0, false
}

// wordFor is the word of that kind that stands for a number; the empty text, if none does.
func wordFor(kind, number int) string {
	for _, w := range words {
		if w.kind == kind && w.number == number {
			return w.text
		}
	}
	return ""
}

// wordsOf cuts a line at its blanks.
func wordsOf(line string) []string {
	var list []string
	from := 0
	for i, c := range line + blank {
		if c != ' ' {
			continue
		}
		if i > from {
			list = append(list, line[from:i])
		}
		from = i + 1
	}
	return list
}

func isName(word string) bool {
	for i, c := range word {
		letter := 'a' <= c && c <= 'z'
		digit := '0' <= c && c <= '9'
		if !letter && (i == 0 || !digit && c != '-') {
			return false
		}
	}
	return word != "" && len(word) <= maxName
}

// readNumber reads decimal digits without a leading zero, of a number that is at most that.
func readNumber(word string, most int) (int, bool) {
	n := 0
	for i, c := range word {
		if c < '0' || c > '9' || i > 0 && n == 0 {
			return 0, false
		}
		n = 10*n + int(c-'0')
		if n > most {
			return 0, false
		}
	}
	return n, word != ""
}

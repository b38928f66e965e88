package shell

import (
	"strings"

	"weft/addr"
	"weft/api"
)

const (
	blank   = " "
	newline = "\n"
	noKind  = 0 // of a word that is no act's
)

// The fields of an act that arguments stand for.
const (
	fieldHost  = "Host"
	fieldN     = "N"
	fieldAt    = "At"
	fieldName  = "Name"
	fieldBytes = "Bytes"
	fieldAddr  = "Addr"
)

// forms is the line of each kind: its word, then the field that each argument stands for.
var forms = [api.ActDisk + 1]string{
	api.ActTick:    "tick N",
	api.ActStep:    "step Host N",
	api.ActRound:   "round N",
	api.ActCalm:    "calm",
	api.ActCrash:   "crash Host",
	api.ActStart:   "start Host",
	api.ActReboot:  "reboot Host",
	api.ActFail:    "fail Host",
	api.ActMute:    "mute Host",
	api.ActPod:     "pod Host Name",
	api.ActUnpod:   "unpod Host Name",
	api.ActSend:    "send Host Bytes",
	api.ActRaw:     "raw Host Bytes",
	api.ActDeliver: "deliver At",
	api.ActLose:    "lose At",
	api.ActCopy:    "copy At",
	api.ActSpoil:   "spoil At N Bytes",
	api.ActFlush:   "flush N",
	api.ActTear:    "tear N",
	api.ActReopen:  "reopen",
	api.ActRevoke:  "revoke Host",
	api.ActLeases:  "leases",
	api.ActTables:  "tables Host",
	api.ActView:    "view Host",
	api.ActPods:    "pods Host",
	api.ActFlight:  "flight",
	api.ActCounts:  "counts Host",
	api.ActHolder:  "holder Addr",
	api.ActDisk:    "disk",
}

// kindOf is the kind of the act that a word begins.
func kindOf(word string) int {
	// The empty word leads to noKind, which has no form; so does every word that is not in here.
	kinds := make(map[string]int, len(forms))
	for kind := range forms {
		kinds[wordOf(kind)] = kind
	}
	return kinds[word]
}

func wordOf(kind int) string {
	word, _, _ := strings.Cut(forms[kind], blank)
	return word
}

// fieldsOf is the fields that a line of that kind names, in their order.
func fieldsOf(kind int) []string {
	return strings.Split(forms[kind], blank)[1:]
}

// readField puts what a word says into the field that it stands for.
func readField(a *api.Act, field, word string) api.Errno {
	var err api.Errno
	switch field {
	case fieldHost:
		a.Host, err = readNumber[int](word)
	case fieldN:
		a.N, err = readNumber[int64](word)
	case fieldAt:
		a.At, err = readNumber[int](word)
	case fieldName:
		a.Name, err = readName(word)
	case fieldBytes:
		a.Bytes, err = readBytes(word)
	case fieldAddr:
		a.Addr, err = addr.Parse(word)
	}
	return err
}

// writeField is the word that says what stands in a field.
func writeField(a api.Act, field string) string {
	switch field {
	case fieldHost:
		return number(a.Host)
	case fieldN:
		return number(a.N)
	case fieldAt:
		return number(a.At)
	case fieldName:
		return a.Name
	case fieldBytes:
		return writeBytes(a.Bytes)
	case fieldAddr:
		return addr.Format(a.Addr)
	}
	return ""
}

// without is an act without what stands in the fields.
func without(a api.Act, fields []string) api.Act {
	for _, field := range fields {
		switch field {
		case fieldHost:
			a.Host = 0
		case fieldN:
			a.N = 0
		case fieldAt:
			a.At = 0
		case fieldName:
			a.Name = ""
		case fieldBytes:
			a.Bytes = nil
		case fieldAddr:
			a.Addr = 0
		}
	}
	return a
}

// isBare tells whether nothing stands in an act's fields, whatever its kind.
func isBare(a api.Act) bool {
	return a.Host == 0 && a.N == 0 && a.At == 0 && a.Name == "" && len(a.Bytes) == 0 && a.Addr == 0
}

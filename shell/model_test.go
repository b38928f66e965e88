package shell

import (
	"encoding/hex"
	"fmt"
	"math/big"
	"net"
	"net/netip"
	"reflect"
	"regexp"
	"strconv"
	"strings"

	"weft/api"
	"weft/conf"
	"weft/world"
)

// chapter is the chapter's table of lines as it stands there, each with its Kind.
const chapter = `
tick N | 1
step Host N | 2
round N | 3
calm | 4
crash Host | 5
start Host | 6
reboot Host | 7
fail Host | 8
mute Host | 9
pod Host Name | 10
unpod Host Name | 11
send Host Bytes | 12
raw Host Bytes | 13
deliver At | 14
lose At | 15
copy At | 16
spoil At N Bytes | 17
flush N | 18
tear N | 19
reopen | 20
revoke Host | 21
leases | 22
tables Host | 23
view Host | 24
pods Host | 25
flight | 26
counts Host | 27
holder Addr | 28
disk | 29
`

// row is a line of that table.
type row struct {
	word   string
	fields []string
	kind   int
}

// allRows is that table, line by line.
var allRows = readRows()

func rows() []row { return allRows }

func readRows() []row {
	var all []row
	for _, line := range strings.Split(strings.TrimSpace(chapter), "\n") {
		left, right, _ := strings.Cut(line, " | ")
		kind, _ := strconv.Atoi(right)
		words := strings.Fields(left)
		all = append(all, row{words[0], words[1:], kind})
	}
	return all
}

// field is a field of an act, by its name.
func field(a *api.Act, name string) reflect.Value {
	return reflect.ValueOf(a).Elem().FieldByName(name)
}

var (
	numberForm = regexp.MustCompile(`^(0|-?[1-9][0-9]*)$`)
	bytesForm  = regexp.MustCompile(`^([0-9a-f][0-9a-f])+$`)
	plainForm  = regexp.MustCompile(`^[a-z0-9-]+$`)
)

// modelWord puts a word into a field, as the chapter's list of arguments says.
func modelWord(a *api.Act, name, word string) api.Errno {
	switch name {
	case "Host", "N", "At":
		n, ok := new(big.Int).SetString(word, 10)
		if !numberForm.MatchString(word) || !ok || !n.IsInt64() {
			return api.ErrNumber
		}
		field(a, name).SetInt(n.Int64())
	case "Bytes":
		if word == "-" {
			return api.OK
		}
		if !bytesForm.MatchString(word) {
			return api.ErrHex
		}
		a.Bytes, _ = hex.DecodeString(word)
	case "Name":
		if len(word) == 0 {
			return api.ErrName
		}
		a.Name = word
	case "Addr":
		ip, err := netip.ParseAddr(word)
		if err != nil || !ip.Is4() {
			return api.ErrAddr
		}
		b := ip.As4()
		a.Addr = quad(int(b[0]), int(b[1]), int(b[2]), int(b[3]))
	}
	return api.OK
}

// modelParse is P20.1, word for word.
func modelParse(line string) (api.Act, api.Errno) {
	if len(line) > 131200 {
		return api.Act{}, api.ErrLong
	}
	var words []string
	word := []byte{}
	for i := range len(line) {
		if line[i] == 10 {
			return api.Act{}, api.ErrWord
		}
		if line[i] == 32 {
			words, word = append(words, string(word)), nil
			continue
		}
		word = append(word, line[i])
	}
	words = append(words, string(word))
	for _, row := range rows() {
		if words[0] != row.word {
			continue
		}
		if len(words) != 1+len(row.fields) {
			return api.Act{}, api.ErrCount
		}
		a := api.Act{Kind: row.kind}
		for i, name := range row.fields {
			if err := modelWord(&a, name, words[i+1]); err != api.OK {
				return api.Act{}, err
			}
		}
		return a, api.OK
	}
	return api.Act{}, api.ErrWord
}

// modelFormat is P20.2, word for word.
func modelFormat(a api.Act) (string, api.Errno) {
	if a.Kind < 1 || a.Kind > 29 {
		return "", api.ErrArg
	}
	row := rows()[a.Kind-1]
	named := " " + strings.Join(row.fields, " ") + " "
	for _, name := range []string{"Host", "N", "At", "Name", "Bytes", "Addr"} {
		f := field(&a, name)
		zero := f.IsZero() || f.Kind() == reflect.Slice && f.Len() == 0
		if !zero && !strings.Contains(named, " "+name+" ") {
			return "", api.ErrArg
		}
	}
	if strings.Contains(named, " Name ") && (a.Name == "" || strings.ContainsAny(a.Name, "\n ")) {
		return "", api.ErrName
	}
	line := row.word
	for _, name := range row.fields {
		switch name {
		case "Name":
			line += " " + a.Name
		case "Bytes":
			line += " " + modelBytes(a.Bytes)
		case "Addr":
			line += " " + modelAddr(a.Addr)
		default:
			line += fmt.Sprintf(" %d", field(&a, name).Int())
		}
	}
	if len(line) > 131200 {
		return "", api.ErrLong
	}
	return line, api.OK
}

func modelBytes(b []byte) string {
	if len(b) == 0 {
		return "-"
	}
	return hex.EncodeToString(b)
}

func modelAddr(a api.Addr) string {
	return net.IPv4(byte(a>>24), byte(a>>16), byte(a>>8), byte(a)).String()
}

func modelMAC(m api.MAC) string { return net.HardwareAddr(m[:]).String() }

func modelPrefix(p api.Prefix) string { return fmt.Sprintf("%s/%d", modelAddr(p.Addr), p.Len) }

func modelName(name string) string {
	if plainForm.MatchString(name) {
		return name
	}
	return fmt.Sprintf("%%%x", name)
}

func modelLease(l api.Lease) string {
	return fmt.Sprintf("%d %s %s %s %d %d", l.Host, modelPrefix(l.Subnet), modelAddr(l.Pub), modelMAC(l.MAC), l.Until, l.Rev)
}

func modelTables(mark string, t api.Tables) string {
	var s string
	for _, r := range t.Routes {
		s += fmt.Sprintf("%sroute %s %s %s\n", mark, modelPrefix(r.Dst), modelAddr(r.Via), map[bool]string{true: "local", false: "remote"}[r.Local])
	}
	for _, n := range t.Neighs {
		s += fmt.Sprintf("%sneigh %s %s\n", mark, modelAddr(n.IP), modelMAC(n.MAC))
	}
	for _, f := range t.Fdbs {
		s += fmt.Sprintf("%sfdb %s %s\n", mark, modelMAC(f.MAC), modelAddr(f.To))
	}
	return s
}

// nothing tells whether there is nothing in a value that is not zero; of lists: not empty.
func nothing(v reflect.Value) bool {
	switch v.Kind() {
	case reflect.Slice:
		return v.Len() == 0
	case reflect.Struct:
		for i := range v.NumField() {
			if !nothing(v.Field(i)) {
				return false
			}
		}
		return true
	}
	return v.IsZero()
}

func modelView(v api.View) string {
	if nothing(reflect.ValueOf(v)) {
		return ""
	}
	one := map[bool]int{true: 1}
	s := fmt.Sprintf("view %d %d %d %d\nown %s\n", one[v.Has], v.Cursor, one[v.Synced], one[v.Degraded], modelLease(v.Lease))
	for _, l := range v.Leases {
		s += "knows " + modelLease(l) + "\n"
	}
	for _, p := range v.Skipped {
		s += "skipped " + modelPrefix(p) + "\n"
	}
	return s + modelTables("has-", v.Have)
}

// modelReply is P20.3, word for word.
func modelReply(r api.Reply) string {
	var s strings.Builder
	fmt.Fprintf(&s, "err %d n %d verdict %d why %d req %d\n", r.Err, r.N, r.Verdict, r.Why, r.Req)
	for _, g := range r.Given {
		fmt.Fprintf(&s, "given %d %s %s %s\n", g.Host, modelAddr(g.To), modelName(g.Name), modelBytes(g.Bytes))
	}
	for _, l := range r.Leases {
		fmt.Fprintf(&s, "lease %s\n", modelLease(l))
	}
	s.WriteString(modelTables("", r.Tables))
	for _, p := range r.Pods {
		fmt.Fprintf(&s, "pod %s %s\n", modelName(p.Name), modelAddr(p.Addr))
	}
	for _, f := range r.Flight {
		fmt.Fprintf(&s, "sent %s %s\n", modelAddr(f.To), modelBytes(f.Bytes))
	}
	s.WriteString(modelView(r.View))
	if len(r.Counts) > 0 {
		fmt.Fprintf(&s, "counts %s\n", strings.Trim(fmt.Sprint(r.Counts), "[]"))
	}
	if len(r.Disk.A)+len(r.Disk.B) > 0 {
		fmt.Fprintf(&s, "disk %s %s\n", modelBytes(r.Disk.A), modelBytes(r.Disk.B))
	}
	return s.String()
}

// modelPlay is P20.5, word for word.
func modelPlay(text, script string) (string, int, api.Errno) {
	if len(script) > 262144 {
		return "", 0, api.ErrLong
	}
	c, err := conf.Load(text)
	if err != api.OK {
		return "", 0, err
	}
	var acts []api.Act
	var at []int
	for number := 1; script != ""; number++ {
		line, rest, _ := strings.Cut(script, "\n")
		script = rest
		if line == "" || line[0] == '#' {
			continue
		}
		a, err := modelParse(line)
		if len(acts)+1 == 1024+1 {
			err = api.ErrLong
		}
		if err != api.OK {
			return "", number, err
		}
		acts, at = append(acts, a), append(at, number)
	}
	replies, err := world.Run(c, acts...)
	if err != api.OK {
		return "", 0, err
	}
	transcript := ""
	for i, r := range replies {
		line, _ := modelFormat(acts[i])
		transcript += "> " + line + "\n" + modelReply(r)
		if len(transcript) > 4194304 {
			return "", at[i], api.ErrLong
		}
	}
	return transcript, 0, api.OK
}

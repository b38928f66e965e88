package dns

import (
	"encoding/binary"
	"fmt"
	"regexp"
	"slices"
	"strings"

	"weft/api"
)

// The model says the chapter in other words: bytes are read by recursion and by panics; a name is put in the message after a look at every place where a name, or a piece of one, stands; what fits is found by trying fewer and fewer records.

var (
	goodName  = regexp.MustCompile(`\A(\.|[0-9A-Za-z_-]{1,63}(\.[0-9A-Za-z_-]{1,63})*)\z`)
	goodLabel = regexp.MustCompile(`\A[0-9A-Za-z_-]*\z`)
)

func show(m api.Message) string {
	return fmt.Sprintf("%+v", m)
}

func modelIsName(text string) bool {
	return len(text) < 300 && goodName.MatchString(text) && len(nam(text)) <= 255
}

type modelReader struct {
	b  []byte
	at int
}

func modelParse(b []byte) (m api.Message, err api.Errno) {
	if len(b) >= 65536 {
		return m, api.ErrLong
	}
	defer func() {
		if fault := recover(); fault != nil {
			m, err = api.Message{}, fault.(api.Errno)
		}
	}()
	r := &modelReader{b: b}
	lead := r.bytes(12)
	m.ID = binary.BigEndian.Uint16(lead)
	bits := fmt.Sprintf("%016b", binary.BigEndian.Uint16(lead[2:]))
	m.Reply, m.AA, m.TC, m.RD, m.RA = bits[0] == '1', bits[5] == '1', bits[6] == '1', bits[7] == '1', bits[8] == '1'
	fmt.Sscanf(bits[1:5]+" "+bits[12:], "%b %b", &m.Opcode, &m.Code)
	for range binary.BigEndian.Uint16(lead[4:]) {
		name := r.name(len(b))
		f := r.bytes(4)
		m.Questions = append(m.Questions, api.Question{Name: name, Type: binary.BigEndian.Uint16(f), Class: binary.BigEndian.Uint16(f[2:])})
	}
	for i, list := range []*[]api.Record{&m.Answers, &m.Authority, &m.Extra} {
		for range binary.BigEndian.Uint16(lead[6+2*i:]) {
			*list = append(*list, r.record())
		}
	}
	if r.at != len(b) {
		panic(api.ErrDNS)
	}
	return m, api.OK
}

func (r *modelReader) bytes(n int) []byte {
	if len(r.b) < r.at+n {
		panic(api.ErrDNS)
	}
	r.at += n
	return r.b[r.at-n : r.at]
}

func (r *modelReader) record() api.Record {
	name := r.name(len(r.b))
	f := append(r.bytes(8), r.bytes(2)...)
	c := api.Record{Name: name, Type: binary.BigEndian.Uint16(f), Class: binary.BigEndian.Uint16(f[2:]), TTL: binary.BigEndian.Uint32(f[4:])}
	size := int(binary.BigEndian.Uint16(f[8:]))
	c.Data = append(c.Data, r.bytes(size)...)
	if c.Type == 1 && size != 4 {
		panic(api.ErrDNS)
	}
	if c.Type == 5 || c.Type == 12 {
		end := r.at
		r.at -= size
		c.Data = []byte(r.name(end))
		if r.at != end {
			panic(api.ErrDNS)
		}
	}
	return c
}

// name reads a name, the first run of which may not go beyond limit.
func (r *modelReader) name(limit int) string {
	labels, behind := modelRun(r.b, r.at, limit, nil, 0)
	r.at = behind
	if len(labels) == 0 {
		return "."
	}
	return strings.Join(labels, ".")
}

// modelRun reads the runs from a place on; there lead so many pointers.
func modelRun(b []byte, begin, limit int, labels []string, hops int) ([]string, int) {
	for at := begin; at < limit; {
		n := int(b[at])
		if n == 0 {
			return labels, at + 1
		}
		if n >= 192 {
			if at+1 >= limit {
				panic(api.ErrDNS)
			}
			place := (n-192)*256 + int(b[at+1])
			if place < 12 || place >= begin || hops == 64 {
				panic(api.ErrPointer)
			}
			labels, _ = modelRun(b, place, len(b), labels, hops+1)
			return labels, at + 2
		}
		if n >= 64 {
			panic(api.ErrDName)
		}
		if at+1+n > limit {
			panic(api.ErrDNS)
		}
		labels = append(labels, string(b[at+1:at+1+n]))
		if !goodLabel.MatchString(labels[len(labels)-1]) || len(lab(labels...))+1 > 255 {
			panic(api.ErrDName)
		}
		at += 1 + n
	}
	panic(api.ErrDNS)
}

type modelWriter struct {
	b     []byte
	where []int // the places at which labels and pointers of names were written
}

func (w *modelWriter) name(text string) {
	if text == "." {
		w.b = append(w.b, 0)
		return
	}
	labels := strings.Split(text, ".")
	own := []int{}
	end := []byte{0}
	for i := 0; i < len(labels); i++ {
		if place := w.find(strings.Join(labels[i:], ".")); place > 0 {
			own = append(own, len(w.b)) // a pointer stands there, and leads to that ending
			end = ptr(place)
			break
		}
		own = append(own, len(w.b))
		w.b = append(w.b, lab(labels[i])...)
	}
	w.b = append(w.b, end...)
	w.where = append(w.where, own...)
}

// find is the lowest place at which an ending stands; 0, if there is none.
func (w *modelWriter) find(ending string) int {
	for _, at := range w.where {
		if labels, _ := modelRun(w.b, at, len(w.b), nil, 0); strings.Join(labels, ".") == ending {
			return at
		}
	}
	return 0
}

func (w *modelWriter) record(c api.Record) {
	w.name(c.Name)
	w.b = append(w.b, two(int(c.Type))...)
	w.b = append(w.b, two(int(c.Class))...)
	w.b = binary.BigEndian.AppendUint32(w.b, c.TTL)
	at := len(w.b)
	w.b = append(w.b, 0, 0)
	if c.Type == 5 || c.Type == 12 {
		w.name(string(c.Data))
	} else {
		w.b = append(w.b, c.Data...)
	}
	binary.BigEndian.PutUint16(w.b[at:], uint16(len(w.b)-at-2))
}

func modelCheck(m api.Message) api.Errno {
	if m.Opcode < 0 || m.Opcode > 15 || m.Code < 0 || m.Code > 15 {
		return api.ErrArg
	}
	if len(m.Questions) > 65535 || len(m.Answers) > 65535 || len(m.Authority) > 65535 || len(m.Extra) > 65535 {
		return api.ErrLong
	}
	all := slices.Concat(m.Answers, m.Authority, m.Extra)
	for _, q := range m.Questions {
		if !modelIsName(q.Name) {
			return api.ErrDName
		}
	}
	for _, c := range all {
		if !modelIsName(c.Name) {
			return api.ErrDName
		}
		if (c.Type == 5 || c.Type == 12) && !modelIsName(string(c.Data)) {
			return api.ErrDName
		}
	}
	for _, c := range all {
		if c.Type == 1 && len(c.Data) != 4 {
			return api.ErrDNS
		}
	}
	for _, c := range all {
		if len(c.Data) > 65535 {
			return api.ErrLong
		}
	}
	return api.OK
}

func modelBuild(m api.Message) ([]byte, api.Errno) {
	if err := modelCheck(m); err != api.OK {
		return nil, err
	}
	count := len(m.Answers) + len(m.Authority) + len(m.Extra)
	b, fits := modelWrite(m, 0, count)
	if !fits {
		return nil, api.ErrBig
	}
	for keep := 1; keep <= count; keep++ {
		more, fits := modelWrite(m, keep, count)
		if !fits {
			break
		}
		b = more
	}
	return b, api.OK
}

// modelWrite is the message with so many of its records, and whether it is short enough.
func modelWrite(m api.Message, keep, count int) ([]byte, bool) {
	w := &modelWriter{b: make([]byte, 12)}
	for _, q := range m.Questions {
		w.name(q.Name)
		w.b = append(append(w.b, two(int(q.Type))...), two(int(q.Class))...)
		if len(w.b) > 512 {
			return nil, false
		}
	}
	m.TC = m.TC || keep < count
	counts := [3]int{}
	for i, list := range [][]api.Record{m.Answers, m.Authority, m.Extra} {
		counts[i] = min(keep, len(list))
		keep -= counts[i]
		for _, c := range list[:counts[i]] {
			w.record(c)
		}
	}
	copy(w.b, modelHead(m, len(m.Questions), counts))
	return w.b, len(w.b) <= 512
}

func modelHead(m api.Message, questions int, counts [3]int) []byte {
	bit := map[bool]string{true: "1", false: "0"}
	bits := bit[m.Reply] + fmt.Sprintf("%04b", m.Opcode) + bit[m.AA] + bit[m.TC] + bit[m.RD] + bit[m.RA] + "000" + fmt.Sprintf("%04b", m.Code)
	var word int
	fmt.Sscanf(bits, "%b", &word)
	return join(two(int(m.ID)), two(word), two(questions), two(counts[0]), two(counts[1]), two(counts[2]))
}

func modelEqual(a, b string) bool {
	return modelIsName(a) && modelIsName(b) && strings.ToLower(a) == strings.ToLower(b)
}

func modelAnswer(m api.Message, zone []api.Record) (api.Message, api.Errno) {
	if m.Reply {
		return api.Message{}, api.ErrDNS
	}
	m.Reply, m.AA, m.TC, m.RA, m.Code = true, false, false, false, 0
	m.Answers, m.Authority, m.Extra = nil, nil, nil
	if m.Opcode != 0 {
		m.Code = 4
		return m, api.OK
	}
	if len(m.Questions) != 1 || !modelIsName(m.Questions[0].Name) {
		m.Code = 1
		return m, api.OK
	}
	if m.Questions[0].Class != 1 {
		m.Code = 5
		return m, api.OK
	}
	m.AA = true
	byName := map[string][]api.Record{}
	for _, c := range zone {
		data := string(c.Data)
		if !modelIsName(c.Name) || c.Class != 1 || c.Type == 1 && len(data) != 4 || (c.Type == 5 || c.Type == 12) && !modelIsName(data) {
			continue
		}
		key := strings.ToLower(c.Name)
		byName[key] = append(byName[key], c)
	}
	m.Answers, m.Code = modelAsk(byName, m.Questions[0].Name, m.Questions[0].Type, 8)
	return m, api.OK
}

// modelAsk is what is found under a name, where so many CNAMEs may be followed yet.
func modelAsk(byName map[string][]api.Record, name string, typ uint16, more int) ([]api.Record, int) {
	has := byName[strings.ToLower(name)]
	if len(has) == 0 {
		return nil, 3
	}
	of := func(typ uint16) []api.Record {
		return slices.DeleteFunc(slices.Clone(has), func(c api.Record) bool { return c.Type != typ })
	}
	if list := of(typ); len(list) > 0 {
		return list, 0
	}
	list := of(5)
	if len(list) == 0 || more == 0 {
		return nil, 0
	}
	behind, code := modelAsk(byName, string(list[0].Data), typ, more-1)
	return append([]api.Record{list[0]}, behind...), code
}

package conf

import (
	"strings"

	"weft/api"
)

// reader reads a JSON text from left to right, and gives up at its first fault.
type reader struct {
	text  string
	at    int // the place of the byte to be read next
	deep  int // brackets that are open
	nodes []api.Node
}

// Parse reads a JSON text: its nodes; of an error the place too.
func Parse(text string) (nodes []api.Node, place int, err api.Errno) {
	if len(text) > api.MaxText {
		return nil, 0, api.ErrLong
	}
	defer func() {
		if x := recover(); x != nil {
			f := x.(fault)
			nodes, place, err = nil, f.place, f.err
		}
	}()
	r := reader{text: text}
	r.blanks()
	r.value("")
	r.blanks()
	if r.at < len(text) {
		r.broken()
	}
	return r.nodes, 0, api.OK
}

// broken gives up because the grammar does not go on with the next byte.
func (r *reader) broken() {
	giveUpAt(api.ErrSyntax, r.at)
}

func (r *reader) peek() byte {
	return byteAt(r.text, r.at)
}

func (r *reader) expect(c byte) {
	if r.peek() != c {
		r.broken()
	}
	r.at++
}

func (r *reader) blanks() {
	for {
		switch r.peek() {
		case ' ', '\t', '\n', '\r':
			r.at++
		default:
			return
		}
	}
}

// kindBegunBy is the kind of the values that begin with c, and 0 where none does.
func kindBegunBy(c byte) int {
	switch c {
	case 'n':
		return api.KNull
	case 'f':
		return api.KFalse
	case 't':
		return api.KTrue
	case '-', '0', '1', '2', '3', '4', '5', '6', '7', '8', '9':
		return api.KNumber
	case '"':
		return api.KString
	case '[':
		return api.KArray
	case '{':
		return api.KObject
	}
	return 0
}

// value reads a value and its parts; key is "" where it is no member.
func (r *reader) value(key string) {
	kind := kindBegunBy(r.peek())
	if kind == 0 {
		r.broken()
	}
	if len(r.nodes) == api.MaxNodes {
		giveUpAt(api.ErrNodes, r.at)
	}
	// Its place is ahead of its parts', though its size is known behind them only.
	place := len(r.nodes)
	r.nodes = append(r.nodes, api.Node{})
	n := api.Node{Kind: kind, Key: key}
	switch kind {
	case api.KNull:
		r.word("null")
	case api.KFalse:
		r.word("false")
	case api.KTrue:
		r.word("true")
	case api.KNumber:
		n.Text = r.number()
	case api.KString:
		n.Text = r.quoted()
	case api.KArray:
		n.Size = r.list(']', func() { r.value("") })
	case api.KObject:
		keys := map[string]struct{}{}
		n.Size = r.list('}', func() { r.member(keys) })
	}
	r.nodes[place] = n
}

func (r *reader) word(w string) {
	for i := range len(w) {
		r.expect(w[i])
	}
}

func (r *reader) number() string {
	from := r.at
	width, whole := scanNumber(r.text[from:])
	r.at += width
	if !whole {
		r.broken()
	}
	// A piece of the text would keep all of it alive.
	return strings.Clone(r.text[from:r.at])
}

// list reads an array or object from its opening bracket to its closing one, and tells how many items it has.
func (r *reader) list(end byte, item func()) int {
	if r.deep == api.MaxDeep {
		giveUpAt(api.ErrDeep, r.at)
	}
	r.deep++
	r.at++
	r.blanks()
	size := 0
	if r.peek() != end {
		size = r.items(item)
	}
	r.expect(end)
	r.deep--
	return size
}

// items reads one item or more, with a comma between each two, and the blanks behind the last.
func (r *reader) items(item func()) int {
	for size := 1; ; size++ {
		item()
		r.blanks()
		if r.peek() != ',' {
			return size
		}
		r.at++
		r.blanks()
	}
}

// member reads a member of the object that has had these keys so far.
func (r *reader) member(keys map[string]struct{}) {
	from := r.at
	key := r.quoted()
	if _, twice := keys[key]; twice {
		giveUpAt(api.ErrKey, from)
	}
	keys[key] = struct{}{}
	r.blanks()
	r.expect(':')
	r.blanks()
	r.value(key)
}

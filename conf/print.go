package conf

import (
	"strings"
	"unicode/utf8"

	"weft/api"
)

// printer writes the value that nodes tell, and gives up at the first node that may not be.
type printer struct {
	rest []api.Node // not yet written
	text strings.Builder
	long bool // the text is above its bound, and is not written on
}

// Print writes nodes as canonical text.
func Print(nodes []api.Node) (text string, err api.Errno) {
	if len(nodes) > api.MaxNodes {
		return "", api.ErrNodes
	}
	defer func() {
		if x := recover(); x != nil {
			f := x.(fault)
			text, err = "", f.err
		}
	}()
	p := printer{rest: nodes}
	p.value(nil, 0)
	if len(p.rest) > 0 {
		return "", api.ErrSyntax
	}
	if p.long {
		return "", api.ErrLong
	}
	return p.text.String(), api.OK
}

// value writes the value whose node is next, at that depth. keys has the keys that its object has had so far; it is nil where the value is no member.
func (p *printer) value(keys map[string]struct{}, deep int) {
	if len(p.rest) == 0 {
		giveUp(api.ErrSyntax)
	}
	n := p.rest[0]
	p.rest = p.rest[1:]
	checkNode(n, keys, deep)
	if keys != nil {
		keys[n.Key] = struct{}{}
		p.quote(n.Key)
		p.write(":")
	}
	switch n.Kind {
	case api.KNull:
		p.write("null")
	case api.KFalse:
		p.write("false")
	case api.KTrue:
		p.write("true")
	case api.KNumber:
		p.write(n.Text)
	case api.KString:
		p.quote(n.Text)
	case api.KArray:
		p.write("[")
		p.parts(n.Size, nil, deep+1)
		p.write("]")
	case api.KObject:
		p.write("{")
		p.parts(n.Size, map[string]struct{}{}, deep+1)
		p.write("}")
	}
}

// parts writes the elements of an array, or the members of an object that has keys. However great the size, it ends where no node is left.
func (p *printer) parts(size int, keys map[string]struct{}, deep int) {
	for i := range size {
		if i > 0 {
			p.write(",")
		}
		p.value(keys, deep)
	}
}

// checkNode gives up where a node may not stand at that depth, in an object with these keys (nil: in none).
func checkNode(n api.Node, keys map[string]struct{}, deep int) {
	if n.Kind < api.KNull || n.Kind > api.KObject {
		giveUp(api.ErrKind)
	}
	if !fieldsFit(n) || keys == nil && n.Key != "" {
		giveUp(api.ErrValue)
	}
	if !utf8.ValidString(n.Key) || n.Kind == api.KString && !utf8.ValidString(n.Text) {
		giveUp(api.ErrText)
	}
	if _, twice := keys[n.Key]; twice {
		giveUp(api.ErrKey)
	}
	if hasParts(n) && deep >= api.MaxDeep {
		giveUp(api.ErrDeep)
	}
}

// fieldsFit tells whether a node has a size and a text only where its kind has them, and such as its kind may have.
func fieldsFit(n api.Node) bool {
	if n.Size < 0 || n.Size > 0 && !hasParts(n) {
		return false
	}
	switch n.Kind {
	case api.KNumber:
		width, whole := scanNumber(n.Text)
		return whole && width == len(n.Text)
	case api.KString:
		return true
	}
	return n.Text == ""
}

func hasParts(n api.Node) bool {
	return n.Kind == api.KArray || n.Kind == api.KObject
}

// write writes s on, as long as the text keeps its bound. A fault of a later node goes ahead of a long text, so that the nodes are gone through all the same.
func (p *printer) write(s string) {
	if len(s) > api.MaxText-p.text.Len() {
		p.long = true
	}
	if !p.long {
		p.text.WriteString(s)
	}
}

// quote writes s as a string.
func (p *printer) quote(s string) {
	p.write(`"`)
	for _, c := range s {
		// Else a string that many nodes share would be gone through for each of them, to no end.
		if p.long {
			return
		}
		p.write(escaped(c))
	}
	p.write(`"`)
}

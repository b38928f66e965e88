package conf

import (
	"strings"
	"unicode/utf8"

	"weft/api"
)

// quoted reads a string and decodes it. All of its form is read first: a fault there is told ahead of what cannot be decoded.
func (r *reader) quoted() string {
	r.expect('"')
	from := r.at
	r.form()
	inside := r.at
	r.expect('"')
	return r.decode(from, inside)
}

// form goes on to a string's closing quote.
func (r *reader) form() {
bytes:
	for {
		switch c := r.peek(); {
		case c == '"':
			break bytes
		case c == '\\':
			r.at++
			r.escape()
			continue bytes
		case c < ' ':
			r.broken()
		}
		r.at++
	}
}

// escape goes through what stands behind a backslash.
func (r *reader) escape() {
	switch r.peek() {
	case '"', '\\', '/', 'b', 'f', 'n', 'r', 't':
		r.at++
	case 'u':
		r.at++
		for range 4 {
			if _, ok := hexDigit(r.peek()); !ok {
				r.broken()
			}
			r.at++
		}
	default:
		r.broken()
	}
}

func hexDigit(c byte) (rune, bool) {
	switch {
	case c >= '0' && c <= '9':
		return rune(c - '0'), true
	case c >= 'a' && c <= 'f':
		return rune(c-'a') + 10, true
	case c >= 'A' && c <= 'F':
		return rune(c-'A') + 10, true
	}
	return 0, false
}

// decode is the text of a string's inside, whose form has been read.
func (r *reader) decode(from, to int) string {
	var text strings.Builder
	for at := from; at < to; {
		c, width := r.character(at)
		text.WriteRune(c)
		at += width
	}
	return text.String()
}

// character is the character that begins at a place of a string's inside, and how many bytes it takes there. None reaches over the closing quote: a quote goes on no sequence of bytes and no escape.
func (r *reader) character(at int) (rune, int) {
	if r.text[at] != '\\' {
		c, width := utf8.DecodeRuneInString(r.text[at:])
		// U+FFFD written out is a character like others, three bytes wide.
		if c == utf8.RuneError && width == 1 {
			giveUpAt(api.ErrText, at)
		}
		return c, width
	}
	c := r.text[at+1]
	if c != 'u' {
		return shortEscape(c), 2
	}
	first := unit(r.text[at+2:])
	if !isHigh(first) && !isLow(first) {
		return first, 6
	}
	second, next := rune(0), r.text[at+6:]
	if isHigh(first) && strings.HasPrefix(next, `\u`) {
		second = unit(next[2:])
	}
	if !isLow(second) {
		giveUpAt(api.ErrText, at)
	}
	return 0x10000 + (first-0xd800)*1024 + (second - 0xdc00), 12
}

// shortEscape is the character that a backslash and c stand for.
func shortEscape(c byte) rune {
	switch c {
	case 'b':
		return '\b'
	case 'f':
		return '\f'
	case 'n':
		return '\n'
	case 'r':
		return '\r'
	case 't':
		return '\t'
	}
	return rune(c)
}

// unit is the number of the four hexadecimal digits that s begins with.
func unit(s string) rune {
	var n rune
	for i := range 4 {
		digit, _ := hexDigit(s[i])
		n = n*16 + digit
	}
	return n
}

func isHigh(c rune) bool {
	return c >= 0xd800 && c <= 0xdbff
}

func isLow(c rune) bool {
	return c >= 0xdc00 && c <= 0xdfff
}

// escaped is how a character stands in a canonical text.
func escaped(c rune) string {
	const hex = "0123456789abcdef"
	switch c {
	case '"':
		return `\"`
	case '\\':
		return `\\`
	case '\b':
		return `\b`
	case '\f':
		return `\f`
	case '\n':
		return `\n`
	case '\r':
		return `\r`
	case '\t':
		return `\t`
	}
	if c < ' ' {
		return `\u00` + string(hex[c>>4]) + string(hex[c&15])
	}
	return string(c)
}

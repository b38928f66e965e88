package shell

import (
	"strconv"
	"strings"

	"weft/api"
)

const (
	noBytes   = "-"
	hexDigits = "0123456789abcdef"
)

// number writes a number in decimal digits.
func number[T ~int | ~int64](n T) string {
	return strconv.FormatInt(int64(n), 10)
}

func readNumber[T int | int64](word string) (T, api.Errno) {
	if !isNumber(word) {
		return 0, api.ErrNumber
	}
	n, err := strconv.ParseInt(word, 10, 64)
	if err != nil {
		return 0, api.ErrNumber
	}
	return T(n), api.OK
}

// isNumber tells whether a word has a number's form, however great the number is.
func isNumber(word string) bool {
	digits := strings.TrimPrefix(word, "-")
	if digits == "" || digits[0] == '0' && word != "0" {
		return false
	}
	for _, c := range digits {
		if c < '0' || c > '9' {
			return false
		}
	}
	return true
}

func writeBytes(b []byte) string {
	if len(b) == 0 {
		return noBytes
	}
	return digitsOf(b)
}

// digitsOf is two digits for each byte.
func digitsOf(b []byte) string {
	text := make([]byte, 0, 2*len(b))
	for _, c := range b {
		text = append(text, hexDigits[c>>4], hexDigits[c&15])
	}
	return string(text)
}

func readBytes(word string) ([]byte, api.Errno) {
	if word == noBytes {
		return nil, api.OK
	}
	if word == "" || len(word)%2 != 0 {
		return nil, api.ErrHex
	}
	b := make([]byte, len(word)/2)
	for i, c := range word {
		digit := strings.IndexRune(hexDigits, c)
		if digit < 0 {
			return nil, api.ErrHex
		}
		b[i/2] = b[i/2]<<4 | byte(digit)
	}
	return b, api.OK
}

func readName(word string) (string, api.Errno) {
	if !isName(word) {
		return "", api.ErrName
	}
	return strings.Clone(word), api.OK
}

// isName tells whether a name can stand in a line as a word.
func isName(name string) bool {
	for _, c := range name {
		if c == ' ' || c == '\n' {
			return false
		}
	}
	return name != ""
}

// writeName is a name as a word: itself, if it is plain.
func writeName(name string) string {
	if isPlain(name) {
		return name
	}
	return "%" + digitsOf([]byte(name))
}

func isPlain(name string) bool {
	for _, c := range name {
		if (c < 'a' || c > 'z') && (c < '0' || c > '9') && c != '-' {
			return false
		}
	}
	return name != ""
}

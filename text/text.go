// Package text is layer 1: see shared/doc/01-text.md.
package text

import (
	"strings"
	"unicode/utf8"
)

const hexDigits = "0123456789ABCDEF"

// Decode is bytes as signs: what is none as U+FFFD, without carriage returns.
func Decode(b []byte) string {
	var out strings.Builder
	out.Grow(len(b))
	for _, r := range string(b) {
		if r != '\r' {
			out.WriteRune(r)
		}
	}
	return out.String()
}

// Right tells whether a text is such as Decode tells.
func Right(s string) bool {
	for i, r := range s {
		// A byte that is no sign looks like U+FFFD here; only the sign itself has its three bytes.
		if r == '\r' || r == utf8.RuneError && !strings.HasPrefix(s[i:], "\uFFFD") {
			return false
		}
	}
	return true
}

// Unquote is the text between quotes with which a text begins, and how many bytes that has; false: it doesn't begin so.
func Unquote(s string) (string, int, bool) {
	if !strings.HasPrefix(s, `"`) {
		return "", 0, false
	}
	var out strings.Builder
	next := 1
	for i, r := range s {
		if i < next { // read already, with what stands ahead of it
			continue
		}
		switch r {
		case '"':
			return out.String(), i + 1, true
		case '\n':
			return "", 0, false
		case '\\':
			sign, width := escaped(s[i:])
			if width == 0 {
				return "", 0, false
			}
			out.WriteRune(sign)
			next = i + width
		default:
			out.WriteRune(r)
		}
	}
	return "", 0, false
}

// escaped is the sign for which the beginning of a text stands, a \ and what is behind it, and how many bytes these have; 0: it stands for none.
func escaped(s string) (rune, int) {
	if len(s) < 2 {
		return 0, 0
	}
	switch s[1] {
	case '"', '\\':
		return rune(s[1]), 2
	case 'u':
		return numbered(s, 4)
	case 'U':
		return numbered(s, 6)
	}
	return 0, 0
}

// numbered is escaped of a sign's number, of so many digits.
func numbered(s string, digits int) (rune, int) {
	width := 2 + digits
	if len(s) < width {
		return 0, 0
	}
	var n rune
	for k := range digits {
		d, ok := hexValue(s[2+k])
		if !ok {
			return 0, 0
		}
		n = n<<4 | d
	}
	if !utf8.ValidRune(n) {
		n = utf8.RuneError
	}
	return n, width
}

func hexValue(c byte) (rune, bool) {
	switch {
	case '0' <= c && c <= '9':
		return rune(c - '0'), true
	case 'a' <= c && c <= 'f':
		return rune(c-'a') + 10, true
	case 'A' <= c && c <= 'F':
		return rune(c-'A') + 10, true
	}
	return 0, false
}

// Quote is a text between quotes.
func Quote(s string) string {
	var out strings.Builder
	out.Grow(len(s) + 2)
	out.WriteByte('"')
	for _, r := range s {
		switch {
		case r == '"' || r == '\\':
			out.WriteByte('\\')
			out.WriteRune(r)
		case r < ' ' || r == 0x7F:
			writeNumber(&out, r)
		default:
			out.WriteRune(r)
		}
	}
	out.WriteByte('"')
	return out.String()
}

func writeNumber(out *strings.Builder, r rune) {
	out.WriteString(`\u`)
	for k := range 4 {
		out.WriteByte(hexDigits[r>>(12-4*k)&15])
	}
}

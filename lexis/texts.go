package lexis

import (
	"strings"

	"assize/api"
)

const (
	maxDigits    = 18
	firstVisible = 32
	lastVisible  = 126
)

// isUnfit reports whether a token cannot stand before the end, or has a text that does not fit its kind.
func isUnfit(t api.Token) bool {
	switch t.Kind {
	case api.TokWord:
		return !isWord(t.Text)
	case api.TokInt:
		return !isInteger(t.Text)
	case api.TokText:
		return !isContents(t.Text)
	case api.TokSign:
		return !isSign(t.Text)
	}
	return true
}

func isWord(s string) bool { return span(s, letter) > 0 && span(s, inWord) == len(s) }

func isInteger(s string) bool {
	if s == "0" {
		return true
	}
	digits := strings.TrimPrefix(s, "-")
	n := len(digits)
	return n > 0 && n <= maxDigits && digits[0] != '0' && span(digits, digit) == n
}

func isSign(s string) bool {
	if s == "<=" || s == ">=" {
		return true
	}
	return len(s) == 1 && classOf(s[0]) == sign
}

// isContents reports whether a text consists of bytes that quoted texts stand for.
func isContents(s string) bool {
	for i := range len(s) {
		if !isVisible(s[i]) && s[i] != '\n' {
			return false
		}
	}
	return true
}

func isVisible(b byte) bool { return b >= firstVisible && b <= lastVisible }

// appendToken appends the bytes of a token that is not unfit.
func appendToken(b []byte, t api.Token) []byte {
	if t.Kind == api.TokText {
		return appendQuoted(b, t.Text)
	}
	return append(b, t.Text...)
}

// appendQuoted appends the quoted text with the given contents.
func appendQuoted(b []byte, contents string) []byte {
	b = append(b, '"')
	for i := range len(contents) {
		switch c := contents[i]; c {
		case '"', '\\':
			b = append(b, '\\', c)
		case '\n':
			b = append(b, '\\', 'n')
		default:
			b = append(b, c)
		}
	}
	return append(b, '"')
}

// unquote returns the contents of the quoted text that begins with the first byte of s, and its number of bytes.
// If there is none, n is the number of bytes before the one that cannot continue it.
func unquote(s string) (contents string, n int, ok bool) {
	var b []byte
	for n = 1; n < len(s) && s[n] != '"'; {
		c, length := meant(s[n:])
		if length == 0 {
			return "", n, false
		}
		b = append(b, c)
		n += length
	}
	if n == len(s) {
		return "", n, false
	}
	return string(b), n + 1, true
}

// meant returns the byte for which a text stands at its beginning, within quotes, and with how many bytes: 0, if for none.
func meant(s string) (c byte, length int) {
	switch {
	case !isVisible(s[0]):
		return 0, 0
	case s[0] != '\\':
		return s[0], 1
	case strings.HasPrefix(s, `\n`):
		return '\n', 2
	case strings.HasPrefix(s, `\"`), strings.HasPrefix(s, `\\`):
		return s[1], 2
	}
	return 0, 0
}

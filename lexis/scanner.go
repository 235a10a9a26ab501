package lexis

import (
	"strings"

	"assize/api"
)

// invalid is the kind of bytes that begin no token; no token has it.
const invalid = 0

// scanner reads a text from its beginning.
type scanner struct {
	text     string
	at       int
	unclosed int // no quoted text begins between at and this offset
}

// skip goes behind the white space and the comments that come next.
func (s *scanner) skip() {
	for s.at < len(s.text) {
		switch classOf(s.text[s.at]) {
		case space:
			s.at++
		case hash:
			s.at += commentLength(s.text[s.at:])
		default:
			return
		}
	}
}

// take goes behind what comes next, a token or invalid bytes, and returns its kind and the text of a token.
func (s *scanner) take() (kind int, text string) {
	if s.at == len(s.text) {
		return api.TokEnd, ""
	}
	rest := s.text[s.at:]
	switch classOf(rest[0]) {
	case letter:
		return api.TokWord, s.advance(span(rest, inWord))
	case sign:
		return api.TokSign, s.advance(signLength(rest))
	case digit, minus:
		return s.takeInteger()
	case quote:
		return s.takeText()
	}
	return invalid, s.advance(1)
}

func (s *scanner) takeInteger() (kind int, text string) {
	rest := s.text[s.at:]
	digits := strings.TrimPrefix(rest, "-")
	if span(digits, digit) == 0 {
		return invalid, s.advance(1)
	}
	text = s.advance(len(rest) - len(digits) + span(digits, inWord))
	if !isInteger(text) {
		return invalid, ""
	}
	return api.TokInt, text
}

func (s *scanner) takeText() (kind int, text string) {
	// A quote before s.unclosed stands in a sequence. The bytes behind it were read up to there when an earlier quote
	// was tried: reading them for each quote again would take time that grows with the square of the text.
	if s.at < s.unclosed {
		return invalid, s.advance(1)
	}
	contents, n, ok := unquote(s.text[s.at:])
	if !ok {
		s.unclosed = s.at + n
		return invalid, s.advance(1)
	}
	s.advance(n)
	return api.TokText, contents
}

// advance goes behind the next n bytes, and returns them.
func (s *scanner) advance(n int) string {
	from := s.at
	s.at += n
	return s.text[from:s.at]
}

// commentLength returns the number of bytes of the comment that begins a text.
func commentLength(s string) int {
	if n := strings.IndexByte(s, '\n'); n >= 0 {
		return n
	}
	return len(s)
}

// signLength returns the number of bytes of the longest sign that begins a text, if one does.
func signLength(s string) int {
	if len(s) > 1 && isSign(s[:2]) {
		return 2
	}
	return 1
}

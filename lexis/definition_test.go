package lexis_test

import (
	"math/rand/v2"
	"regexp"
	"slices"
	"strings"

	"assize/api"
)

// What the chapter defines, with regular expressions.

const (
	most     = 65536 // MaxSource, as the chapter writes it
	mostRuns = 64    // MaxProblems
)

var (
	gapShape    = regexp.MustCompile(`\A([ \t\n\r]|#[^\n]*)+`)
	wordShape   = regexp.MustCompile(`\A[a-zA-Z][a-zA-Z0-9_]*`)
	numberShape = regexp.MustCompile(`\A-?[0-9][a-zA-Z0-9_]*`)
	intShape    = regexp.MustCompile(`\A(0|-?[1-9][0-9]{0,17})\z`)
	textShape   = regexp.MustCompile(`\A"([\x20\x21\x23-\x5b\x5d-\x7e]|\\["\\n])*"`)
	signShape   = regexp.MustCompile(`\A(<=|>=|[{}()\[\];,:/=<>])`)
)

var (
	unescape = strings.NewReplacer(`\"`, `"`, `\\`, `\`, `\n`, "\n")
	escape   = strings.NewReplacer(`"`, `\"`, `\`, `\\`, "\n", `\n`)
)

// firstOf returns what begins a text that begins with no white space or comment: its kind (0: invalid), its number of
// bytes, and the text of the token.
func firstOf(s string) (kind, n int, text string) {
	if word := wordShape.FindString(s); word != "" {
		return api.TokWord, len(word), word
	}
	if number := numberShape.FindString(s); number != "" {
		if intShape.MatchString(number) {
			return api.TokInt, len(number), number
		}
		return 0, len(number), ""
	}
	if text := textShape.FindString(s); text != "" {
		return api.TokText, len(text), unescape.Replace(text[1 : len(text)-1])
	}
	if sign := signShape.FindString(s); sign != "" {
		return api.TokSign, len(sign), sign
	}
	return 0, 1, ""
}

// tokensOf is Tokens by its definition.
func tokensOf(src string) (l []api.Token, bad []api.Problem, e api.Errno) {
	if len(src) > most {
		return nil, nil, api.ErrLimit
	}
	at, inRun := 0, false
	for {
		if gap := gapShape.FindString(src[at:]); gap != "" {
			at, inRun = at+len(gap), false
			continue
		}
		if at == len(src) {
			return append(l, end(at)), bad, api.OK
		}
		kind, n, text := firstOf(src[at:])
		if kind != 0 {
			l = append(l, api.Token{Kind: kind, Text: text, At: at})
		} else if !inRun && len(bad) < mostRuns {
			bad = append(bad, api.Problem{At: at, Code: api.ErrToken})
		}
		at, inRun = at+n, kind == 0
	}
}

// fits reports whether a token may stand before the end in a list that is joined.
func fits(t api.Token) bool {
	switch t.Kind {
	case api.TokWord:
		return t.Text != "" && wordShape.FindString(t.Text) == t.Text
	case api.TokInt:
		return intShape.MatchString(t.Text)
	case api.TokText:
		return !strings.ContainsFunc(t.Text, func(r rune) bool { return r != 10 && (r < 32 || r > 126) })
	case api.TokSign:
		return t.Text != "" && signShape.FindString(t.Text) == t.Text
	}
	return false
}

// joinOf is Join by its definition.
func joinOf(l []api.Token) (string, api.Errno) {
	if len(l) == 0 || l[len(l)-1].Kind != api.TokEnd || l[len(l)-1].Text != "" {
		return "", api.ErrArg
	}
	var texts []string
	for _, t := range l[:len(l)-1] {
		if !fits(t) {
			return "", api.ErrArg
		}
		if t.Kind == api.TokText {
			texts = append(texts, `"`+escape.Replace(t.Text)+`"`)
		} else {
			texts = append(texts, t.Text)
		}
	}
	s := strings.Join(texts, " ")
	if len(s) > most {
		return "", api.ErrLimit
	}
	return s, api.OK
}

func word(at int, text string) api.Token { return api.Token{Kind: api.TokWord, Text: text, At: at} }

func integer(at int, text string) api.Token { return api.Token{Kind: api.TokInt, Text: text, At: at} }

func quoted(at int, text string) api.Token { return api.Token{Kind: api.TokText, Text: text, At: at} }

func sign(at int, text string) api.Token { return api.Token{Kind: api.TokSign, Text: text, At: at} }

func end(at int) api.Token { return api.Token{Kind: api.TokEnd, At: at} }

func list(l ...api.Token) []api.Token { return l }

// at0 has the tokens without their offsets.
func at0(l []api.Token) []api.Token {
	l = slices.Clone(l)
	for i := range l {
		l[i].At = 0
	}
	return l
}

func drawn() *rand.Rand { return rand.New(rand.NewPCG(6, 60)) }

// pieces are parts of texts, of every kind, whole and damaged.
func pieces() []string {
	return []string{
		"a", "Z", "points", "rules", "head", "x_1", "a__", "_", "_a", "0", "1", "7", "42", "-", "-0", "-5", "00", "007", "5a", "1_", "-9x",
		"999999999999999999", "-100000000000000000", "1000000000000000000", "--", "- ",
		`""`, `"a b"`, `"\""`, `"\\"`, `"\n"`, `"#"`, `"`, `\`, `\"`, `"\`, `"a\x"`, "\"\n", "\"\x1f\"", "\"\x7f\"", "\"~ !\"",
		"{", "}", "(", ")", "[", "]", ";", ",", ":", "/", "=", "<", ">", "<=", ">=", "==", "=>",
		" ", "\t", "\n", "\r", "  ", "\r\n", "#", "# x", "# x\n", "#\n", "#\"\n", "#\r",
		"%", "$", "!", "&", "'", "*", "+", ".", "?", "@", "^", "`", "|", "~", "\x00", "\x0b", "\x1f", "\x7f", "\x80", "\xff", "ä", "\u00a0", "\u2028",
	}
}

// eachDrawnText calls f with texts that are drawn from pieces.
func eachDrawnText(many int, f func(src string)) {
	r, l := drawn(), pieces()
	for range many {
		var b strings.Builder
		for range r.IntN(20) {
			b.WriteString(l[r.IntN(len(l))])
		}
		f(b.String())
	}
}

// eachText calls f with every text of up to n of the letters.
func eachText(n int, letters string, f func(src string)) {
	var extend func(src string)
	extend = func(src string) {
		f(src)
		for i := 0; len(src) < n && i < len(letters); i++ {
			extend(src + letters[i:i+1])
		}
	}
	extend("")
}

package lexis_test

import (
	"slices"
	"strings"
	"testing"

	"assize/api"
	"assize/lexis"
)

// P6.4: the tokens of a joined list are those of the list, without problems.
func TestTokensOfJoinedLists(t *testing.T) {
	r, texts := drawn(), append(pieces(), `a"b`, "\n", "x y", `\n`, `\"`, "# x", "a # b\nc")
	check := func(l []api.Token) {
		b, e := lexis.Join(l)
		if e != api.OK {
			t.Fatalf("Join(%v) = %d", l, e)
		}
		back, bad, e := lexis.Tokens(b)
		if e != api.OK || len(bad) > 0 || !slices.Equal(at0(back), at0(l)) {
			t.Fatalf("Tokens(Join(%v)) = Tokens(%q) = %v, %v, %d", l, b, back, bad, e)
		}
	}
	for range 30000 {
		var l []api.Token
		for range r.IntN(8) {
			if x := (api.Token{Kind: 1 + r.IntN(4), Text: texts[r.IntN(len(texts))], At: r.IntN(9)}); fits(x) {
				l = append(l, x)
			}
		}
		check(append(l, end(0)))
	}
	eachText(5, "\"\\n\n#", func(contents string) { check(list(quoted(0, contents), end(0))) })
	for a := byte(32); a < 127; a++ {
		check(list(quoted(0, string([]byte{a})), quoted(0, string([]byte{'\\', a})), quoted(0, string([]byte{a, '\n', a})), end(0)))
	}
	check(list(word(0, strings.Repeat("w", most)), end(0)))
	check(list(quoted(0, strings.Repeat(`"`, most/2-1)), end(0)))
	check(append(slices.Repeat(list(sign(0, "<"), sign(0, "=")), most/4), end(0)))
}

// eachTokens calls f with texts of every kind, and with their tokens.
func eachTokens(t *testing.T, f func(src string, l []api.Token)) {
	check := func(src string) {
		l, _, e := lexis.Tokens([]byte(src))
		if e != api.OK {
			t.Fatalf("Tokens(%.80q) = %d", src, e)
		}
		f(src, l)
	}
	eachText(4, "a0-\"\\n#\n <=%", check)
	eachDrawnText(10000, check)
	for _, src := range []string{strings.Repeat("<=", most/2), strings.Repeat("a;", most/2), strings.Repeat(`""`, most/2), strings.Repeat("1 ", most/2)} {
		check(src)
		check(src[:most/2])
		check(src[:most/2+1])
	}
}

// P6.4: the tokens of a text, joined, are split into the same kinds and texts, unless they are too long.
func TestTokensOfJoinedTexts(t *testing.T) {
	eachTokens(t, func(src string, l []api.Token) {
		b, e := lexis.Join(l)
		if want, f := joinOf(l); string(b) != want || e != f || e != api.OK && e != api.ErrLimit {
			t.Fatalf("Join of the tokens of %.80q = %.80q, %d, want %.80q, %d", src, b, e, want, f)
		}
		if e == api.ErrLimit {
			return
		}
		back, bad, e := lexis.Tokens(b)
		if e != api.OK || len(bad) > 0 || !slices.Equal(at0(back), at0(l)) {
			t.Fatalf("%.80q has the tokens %.200v, and joined %.200v, %v, %d", src, l, back, bad, e)
		}
	})
}

// first returns the first byte of a token in a text.
func first(x api.Token) byte {
	if x.Kind == api.TokText {
		return '"'
	}
	return x.Text[0]
}

// P6.4: offsets increase, each token begins at its offset, and the end is at the end; so do the offsets of problems.
func TestOffsets(t *testing.T) {
	eachTokens(t, func(src string, l []api.Token) {
		for i, x := range l {
			if i > 0 && x.At <= l[i-1].At {
				t.Fatalf("%.80q has tokens at %d and %d", src, l[i-1].At, x.At)
			}
			if (x.Kind == api.TokEnd) != (i == len(l)-1) {
				t.Fatalf("%.80q has an end as token %d of %d", src, i, len(l))
			}
			if x.Kind != api.TokEnd && src[x.At] != first(x) {
				t.Fatalf("%.80q has the token %v at %d", src, x, x.At)
			}
		}
		if last := l[len(l)-1]; last != end(len(src)) {
			t.Fatalf("%.80q ends with %v", src, last)
		}
	})
}

// P6.4: a comment and a byte 10 before a token change neither kinds nor texts.
func TestComments(t *testing.T) {
	comments := []string{"#\n", "# x\n", "#%\\\n", "##\n", "#\r\x00\xff\n", "#;1 a\n#\n"}
	eachTokens(t, func(src string, l []api.Token) {
		if len(src) > 1000 {
			return
		}
		for i, x := range l {
			comment := comments[(i+len(src))%len(comments)]
			with := src[:x.At] + comment + src[x.At:]
			back, _, e := lexis.Tokens([]byte(with))
			if e != api.OK || !slices.Equal(at0(back), at0(l)) {
				t.Fatalf("%q has the tokens %v, but %q has %v, %d", src, l, with, back, e)
			}
		}
	})
}

// R2: the results stay as they are when the arguments are changed afterwards.
func TestResultsAreTheirOwn(t *testing.T) {
	src := []byte(`a -5 "q\n" ; %`)
	l, bad, _ := lexis.Tokens(src)
	before, problems := slices.Clone(l), slices.Clone(bad)
	b, _ := lexis.Join(l)
	joined := string(b)
	clear(src)
	lexis.Tokens([]byte("% other % text"))
	if !slices.Equal(l, before) || !slices.Equal(bad, problems) || l[0].Text != "a" || l[2].Text != "q\n" {
		t.Errorf("the tokens have become %v, %v", l, bad)
	}
	clear(l)
	if string(b) != joined || joined != `a -5 "q\n" ;` {
		t.Errorf("the joined text has become %q", b)
	}
}

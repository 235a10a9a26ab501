package lexis_test

import (
	"slices"
	"strings"
	"testing"

	"assize/api"
	"assize/lexis"
)

func checkTokens(t *testing.T, src string, want []api.Token, runs ...int) {
	t.Helper()
	l, bad, e := lexis.Tokens([]byte(src))
	if e != api.OK || !slices.Equal(l, want) {
		t.Errorf("Tokens(%.60q) = %.60v, %d, want %.60v", src, l, e, want)
	}
	var offsets []int
	for _, p := range bad {
		offsets = append(offsets, p.At)
		if p.Code != api.ErrToken {
			t.Errorf("Tokens(%.60q) has the problem %v", src, p)
		}
	}
	if !slices.Equal(offsets, runs) {
		t.Errorf("Tokens(%.60q) has problems at %d, want %d", src, offsets, runs)
	}
}

// checkByDefinition compares the tokens of a text with the definition.
func checkByDefinition(t *testing.T, src string) {
	t.Helper()
	b := []byte(src)
	l, bad, e := lexis.Tokens(b)
	wantL, wantBad, wantE := tokensOf(src)
	if e != wantE || !slices.Equal(l, wantL) || !slices.Equal(bad, wantBad) {
		t.Fatalf("Tokens(%.80q) = %.80v, %v, %d, want %.80v, %v, %d", src, l, bad, e, wantL, wantBad, wantE)
	}
	if string(b) != src {
		t.Fatalf("Tokens has changed %.80q", src)
	}
}

// P6.1: the examples of the chapter, white space and comments.
func TestTokens(t *testing.T) {
	checkTokens(t, "", list(end(0)))
	checkTokens(t, "# x", list(end(3)))
	checkTokens(t, `"a\"b"`, list(quoted(0, `a"b`), end(6)))
	checkTokens(t, `"a`, list(word(1, "a"), end(2)), 0)
	checkTokens(t, "-", list(end(1)), 0)
	checkTokens(t, "x < = 3", list(word(0, "x"), sign(2, "<"), sign(4, "="), integer(6, "3"), end(7)))
	checkTokens(t, "a>=-5", list(word(0, "a"), sign(1, ">="), integer(3, "-5"), end(5)))
	checkTokens(t, "007%$", list(end(5)), 0)

	checkTokens(t, " ", list(end(1)))
	checkTokens(t, " \t\n\r", list(end(4)))
	checkTokens(t, "\r\na\t b ", list(word(2, "a"), word(5, "b"), end(7)))
	checkTokens(t, "#", list(end(1)))
	checkTokens(t, "#\n", list(end(2)))
	checkTokens(t, "##\n#", list(end(4)))
	checkTokens(t, "a#b c\nd", list(word(0, "a"), word(6, "d"), end(7)))
	checkTokens(t, "a # \"%\x00\xff\n\n# y\n-1#", list(word(0, "a"), integer(14, "-1"), end(17)))
	// Only a byte 10 ends a comment.
	checkTokens(t, "#x\ry\u2028z", list(end(8)))
	// Other spaces are no white space.
	checkTokens(t, "a\vb\fc", list(word(0, "a"), word(2, "b"), word(4, "c"), end(5)), 1, 3)
	checkTokens(t, "a\u00a0b", list(word(0, "a"), word(3, "b"), end(4)), 1)
}

// P6.1: words are as long as they can be, and begin with letters.
func TestWords(t *testing.T) {
	checkTokens(t, "a", list(word(0, "a"), end(1)))
	checkTokens(t, "AzZ09_x_", list(word(0, "AzZ09_x_"), end(8)))
	checkTokens(t, "points;Points", list(word(0, "points"), sign(6, ";"), word(7, "Points"), end(13)))
	checkTokens(t, "_a", list(word(1, "a"), end(2)), 0)
	checkTokens(t, "a-b", list(word(0, "a"), word(2, "b"), end(3)), 1)
	checkTokens(t, "a-1", list(word(0, "a"), integer(1, "-1"), end(3)))
	checkTokens(t, "é", list(end(2)), 0)
	checkTokens(t, "aéb", list(word(0, "a"), word(3, "b"), end(4)), 1)
	long := strings.Repeat("w", most)
	checkTokens(t, long, list(word(0, long), end(most)))
}

// P6.1: what is an integer, and what is taken together without being one.
func TestIntegers(t *testing.T) {
	for _, s := range []string{"0", "1", "9", "-1", "-9", "10", "100", "999999999999999999", "-999999999999999999", "100000000000000000", "-100000000000000000", "123456789012345678"} {
		checkTokens(t, s, list(integer(0, s), end(len(s))))
		checkTokens(t, s+" ", list(integer(0, s), end(len(s)+1)))
		checkTokens(t, s+";", list(integer(0, s), sign(len(s), ";"), end(len(s)+1)))
	}
	for _, s := range []string{
		"-0", "00", "-00", "01", "-01", "007", "000000000000000000", "1000000000000000000", "-1000000000000000000", "9999999999999999999", "0000000000000000001",
		"1a", "0a", "-1a", "1_", "0_", "-1_", "1_000", "0x10", "1e5", "9Z", "18446744073709551617", "999999999999999999a", strings.Repeat("1", most),
	} {
		checkTokens(t, s, list(end(len(s))), 0)
		// None of its bytes begins something else.
		if len(s) < most {
			checkTokens(t, s+" ", list(end(len(s)+1)), 0)
			checkTokens(t, s+"<", list(sign(len(s), "<"), end(len(s)+1)), 0)
		}
	}
	checkTokens(t, "--1", list(integer(1, "-1"), end(3)), 0)
	checkTokens(t, "1-1", list(integer(0, "1"), integer(1, "-1"), end(3)))
	checkTokens(t, "-a1", list(word(1, "a1"), end(3)), 0)
	checkTokens(t, "- 1", list(integer(2, "1"), end(3)), 0)
	checkTokens(t, "-_1", list(integer(2, "1"), end(3)), 0)
	checkTokens(t, "+1.5", list(integer(1, "1"), integer(3, "5"), end(4)), 0, 2)
}

// P6.1: quoted texts, with their sequences, and quotes that begin none.
func TestQuotedTexts(t *testing.T) {
	checkTokens(t, `""`, list(quoted(0, ""), end(2)))
	checkTokens(t, `"a b"`, list(quoted(0, "a b"), end(5)))
	checkTokens(t, `"\""`, list(quoted(0, `"`), end(4)))
	checkTokens(t, `"\\"`, list(quoted(0, `\`), end(4)))
	checkTokens(t, `"\n"`, list(quoted(0, "\n"), end(4)))
	checkTokens(t, `"\\n\"\\\n"`, list(quoted(0, "\\n\"\\\n"), end(11)))
	checkTokens(t, `" !#[]~{}007-%_"`, list(quoted(0, " !#[]~{}007-%_"), end(16)))
	checkTokens(t, `"a""b"`, list(quoted(0, "a"), quoted(3, "b"), end(6)))
	checkTokens(t, `"a"b"c"1`, list(quoted(0, "a"), word(3, "b"), quoted(4, "c"), integer(7, "1"), end(8)))
	checkTokens(t, `"#"#"`, list(quoted(0, "#"), end(5)))
	long := strings.Repeat("q", most-2)
	checkTokens(t, `"`+long+`"`, list(quoted(0, long), end(most)))

	checkTokens(t, `"`, list(end(1)), 0)
	checkTokens(t, `"""`, list(quoted(0, ""), end(3)), 2)
	checkTokens(t, `"\"`, list(end(3)), 0)
	checkTokens(t, `"\`, list(end(2)), 0)
	checkTokens(t, `"\n`, list(word(2, "n"), end(3)), 0)
	checkTokens(t, `"a\"`, list(word(1, "a"), end(4)), 0, 2)
	checkTokens(t, `"\x"`, list(word(2, "x"), end(4)), 0, 3)
	checkTokens(t, `"\N"`, list(word(2, "N"), end(4)), 0, 3)
	checkTokens(t, `"\t"1"`, list(word(2, "t"), quoted(3, "1"), end(6)), 0)
	checkTokens(t, "\"a\nb\"", list(word(1, "a"), word(3, "b"), end(5)), 0, 4)
	checkTokens(t, "\"a\\\nb\"", list(word(1, "a"), word(4, "b"), end(6)), 0, 2, 5)
	checkTokens(t, "\"a\tb\"", list(word(1, "a"), word(3, "b"), end(5)), 0, 4)
	checkTokens(t, "\"\x1f\"", list(end(3)), 0)
	checkTokens(t, "\"\x7f\"", list(end(3)), 0)
	checkTokens(t, "\"ä\"", list(end(4)), 0)
	checkTokens(t, "\"\r\"a\"", list(quoted(2, "a"), end(5)), 0)
	// What follows a quote that begins no text is read as if the quote were not there.
	checkTokens(t, "\"#\t\"a\"\n1", list(integer(7, "1"), end(8)), 0)
	checkTokens(t, "\"-1 <=\n\"b\"", list(integer(1, "-1"), sign(4, "<="), quoted(7, "b"), end(10)), 0)
	checkTokens(t, "\"\\\"a\x00\"b\"", list(word(3, "a"), quoted(5, "b"), end(8)), 0, 4)
	checkTokens(t, "\"\\\"\\\\\\\"\n\"\\\"\"", list(quoted(8, `"`), end(12)), 0)
	many := strings.Repeat(`"\`, most/2)
	checkTokens(t, many, list(end(most)), 0)
	checkTokens(t, many[:most-1]+"\n", list(end(most)), 0)
	checkTokens(t, many[:most-4]+`\" %`, list(quoted(0, strings.Repeat(`"`, most/2-3)+`\`), end(most)), most-1)
}

// P6.1: each sign; the longer one of two that begin alike.
func TestSigns(t *testing.T) {
	signs := []string{"{", "}", "(", ")", "[", "]", ";", ",", ":", "/", "=", "<", ">", "<=", ">="}
	for _, a := range signs {
		checkTokens(t, a, list(sign(0, a), end(len(a))))
		checkTokens(t, a+"="+a, list(slices.Concat(signsOf(0, a+"="), signsOf(len(a)+1, a), list(end(2*len(a)+1)))...))
		for _, b := range signs {
			checkTokens(t, a+" "+b, list(sign(0, a), sign(len(a)+1, b), end(len(a+b)+1)))
			checkByDefinition(t, a+b)
		}
	}
	checkTokens(t, "<=", list(sign(0, "<="), end(2)))
	checkTokens(t, "<==", list(sign(0, "<="), sign(2, "="), end(3)))
	checkTokens(t, "<<=>>=>", list(sign(0, "<"), sign(1, "<="), sign(3, ">"), sign(4, ">="), sign(6, ">"), end(7)))
	checkTokens(t, "=<=>", list(sign(0, "="), sign(1, "<="), sign(3, ">"), end(4)))
	checkTokens(t, "<>", list(sign(0, "<"), sign(1, ">"), end(2)))
	checkTokens(t, "{}", list(sign(0, "{"), sign(1, "}"), end(2)))
	checkTokens(t, "<#\n=", list(sign(0, "<"), sign(3, "="), end(4)))
	checkTokens(t, "!=", list(sign(1, "="), end(2)), 0)
}

// signsOf has the tokens of a sign that an = may follow.
func signsOf(at int, s string) []api.Token {
	switch s {
	case "<", ">", "<=", ">=":
		return list(sign(at, s))
	}
	if n := len(s) - 1; n > 0 {
		return list(sign(at, s[:n]), sign(at+n, s[n:]))
	}
	return list(sign(at, s))
}

// P6.1: runs are ended by white space, comments and tokens, and by nothing else.
func TestRuns(t *testing.T) {
	checkTokens(t, "%$", list(end(2)), 0)
	checkTokens(t, "% $", list(end(3)), 0, 2)
	checkTokens(t, "%\n$", list(end(3)), 0, 2)
	checkTokens(t, "%#\n$", list(end(4)), 0, 3)
	checkTokens(t, "%#%$", list(end(4)), 0)
	checkTokens(t, "%a$", list(word(1, "a"), end(3)), 0, 2)
	checkTokens(t, "%;$", list(sign(1, ";"), end(3)), 0, 2)
	checkTokens(t, "%1$", list(integer(1, "1"), end(3)), 0, 2)
	checkTokens(t, "%01$", list(end(4)), 0)
	checkTokens(t, `%""$`, list(quoted(1, ""), end(4)), 0, 3)
	checkTokens(t, `%"$`, list(end(3)), 0)
	checkTokens(t, "%-$-01_--00$", list(end(12)), 0)
	checkTokens(t, "00-00", list(end(5)), 0)
	checkTokens(t, "00 00", list(end(5)), 0, 3)
	checkTokens(t, " 007%", list(end(5)), 1)
	checkTokens(t, "a%", list(word(0, "a"), end(2)), 1)
	checkTokens(t, strings.Repeat("%", most), list(end(most)), 0)
}

// P6.1: 64 runs are reported, and no more; the tokens behind them are read all the same.
func TestManyRuns(t *testing.T) {
	for _, n := range []int{1, 2, 63, 64, 65, 66, 1000, most/2 - 1} {
		for _, run := range []string{"% ", "%a", "%;"} {
			src := strings.Repeat(run, n) + "x"
			l, bad, e := lexis.Tokens([]byte(src))
			if e != api.OK || len(bad) != min(n, mostRuns) {
				t.Fatalf("%d times %q lead to %d problems, %d", n, run, len(bad), e)
			}
			for i, p := range bad {
				if p.At != 2*i || p.Code != api.ErrToken {
					t.Fatalf("%d times %q lead to the problem %v", n, run, p)
				}
			}
			if last := l[len(l)-1]; last != end(len(src)) || !strings.HasSuffix(l[len(l)-2].Text, "x") {
				t.Fatalf("%d times %q end with %v", n, run, l[len(l)-2:])
			}
			if n < 2000 {
				checkByDefinition(t, src)
			}
		}
	}
}

// P6.1: texts of 65536 bytes are read, and longer ones are refused, whatever they contain.
func TestTokensOfLongTexts(t *testing.T) {
	for _, unit := range []string{"a", "1", " ", "#", "#\n", `"`, `""`, `\"`, "<", "=<", "%", "-", "a ", "0 ", "\xff", "{}"} {
		src := strings.Repeat(unit, most+2)
		l, _, e := lexis.Tokens([]byte(src[:most]))
		if e != api.OK || len(l) == 0 || l[len(l)-1] != end(most) {
			t.Errorf("65536 bytes %q: %d tokens, %d", unit, len(l), e)
		}
		for _, n := range []int{most + 1, most + 2, len(src)} {
			l, bad, e := lexis.Tokens([]byte(src[:n]))
			if len(l) != 0 || len(bad) != 0 || e != api.ErrLimit {
				t.Errorf("%d bytes %q: %d tokens, %d problems, %d", n, unit, len(l), len(bad), e)
			}
		}
	}
}

// P6.1: bytes of every value, wherever they stand.
func TestTokensOfEveryByte(t *testing.T) {
	for a := range 256 {
		c := string([]byte{byte(a)})
		for _, src := range []string{c, c + c, "a" + c, c + "a", "a" + c + "a", "1" + c, c + "1", "1" + c + "1", "-" + c, "-1" + c, "0" + c, "%" + c + "%",
			`"` + c, `"` + c + `"`, `"a` + c + `b"`, `"\` + c, `"\` + c + `"`, `"\\` + c + `"`, "#" + c, "#a" + c + "b\nc", "#a\n" + c, "<" + c, ">" + c + "=", "=" + c, "_" + c} {
			checkByDefinition(t, src)
		}
		for b := range 256 {
			checkByDefinition(t, c+string([]byte{byte(b)}))
		}
	}
}

// P6.1: every short text, and drawn ones, are split as defined.
func TestTokensByDefinition(t *testing.T) {
	check := func(src string) { checkByDefinition(t, src) }
	eachText(4, "a01-_\"\\n#\n <=%", check)
	eachText(6, "\"\\n#\n", check)
	eachText(6, "-01a_%", check)
	eachText(6, "<>= {", check)
	eachDrawnText(40000, check)
	for _, digits := range []int{1, 2, 17, 18, 19, 20, 100} {
		for _, s := range []string{strings.Repeat("9", digits), "1" + strings.Repeat("0", digits-1), strings.Repeat("0", digits)} {
			for _, src := range []string{s, "-" + s, s + "a", s + "_", "a" + s, "--" + s, s + "-" + s, s + " " + s} {
				check(src)
			}
		}
	}
}

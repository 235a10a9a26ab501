package lexis_test

import (
	"math"
	"slices"
	"strings"
	"testing"

	"assize/api"
	"assize/lexis"
)

const keywords = "rules win draw loss order zones to if else and or not tied round finished clubs points difference goals wins away fair head lots"

// P6.2: the 24 keywords, and no word that differs from them by a letter or by case.
func TestKeyword(t *testing.T) {
	all := strings.Fields(keywords)
	if len(all) != 24 {
		t.Fatalf("the chapter has 24 keywords, not %d", len(all))
	}
	check := func(word string) {
		if ok := lexis.Keyword(word); ok != slices.Contains(all, word) {
			t.Errorf("Keyword(%q) = %t", word, ok)
		}
	}
	for _, word := range all {
		check(word)
		check(strings.ToUpper(word))
		check(strings.ToUpper(word[:1]) + word[1:])
		for i := range len(word) + 1 {
			check(word[:i])
			check(word[i:])
			for c := range 256 {
				letter := string([]byte{byte(c)})
				check(word[:i] + letter + word[i:])
				if i < len(word) {
					check(word[:i] + letter + word[i+1:])
				}
			}
			if i < len(word) {
				check(word[:i] + word[i+1:])
				check(word[:i] + strings.ToUpper(word[i:i+1]) + word[i+1:])
			}
		}
		for _, other := range all {
			check(word + other)
			check(word + " " + other)
		}
	}
	for _, word := range []string{"", " ", "a", "Points", "lose", "rule", "zone", "club", "point", "than", "ties", "cards", "end", "rul\u0435s", "\xff", strings.Repeat("to", 40000)} {
		check(word)
	}
}

func checkJoin(t *testing.T, l []api.Token, want string, f api.Errno) {
	t.Helper()
	before := slices.Clone(l)
	if b, e := lexis.Join(l); string(b) != want || e != f {
		t.Errorf("Join(%.200v) = %.60q, %d, want %.60q, %d", l, b, e, want, f)
	}
	if !slices.Equal(l, before) {
		t.Errorf("Join has changed %.200v to %.200v", before, l)
	}
}

// P6.2: texts that are known.
func TestJoin(t *testing.T) {
	checkJoin(t, list(end(0)), "", api.OK)
	checkJoin(t, list(word(0, "a"), end(0)), "a", api.OK)
	checkJoin(t, list(word(0, "a"), word(0, "b"), end(0)), "a b", api.OK)
	checkJoin(t, list(word(0, "x"), sign(0, "<"), sign(0, "="), integer(0, "3"), end(0)), "x < = 3", api.OK)
	checkJoin(t, list(word(0, "a"), sign(0, ">="), integer(0, "-5"), end(0)), "a >= -5", api.OK)
	checkJoin(t, list(quoted(0, ""), end(0)), `""`, api.OK)
	checkJoin(t, list(quoted(0, `a"b`), end(0)), `"a\"b"`, api.OK)
	checkJoin(t, list(quoted(0, `\`), quoted(0, "\n"), quoted(0, `"`), end(0)), `"\\" "\n" "\""`, api.OK)
	checkJoin(t, list(quoted(0, `\n`), quoted(0, "\n\\\"\n"), end(0)), `"\\n" "\n\\\"\n"`, api.OK)
	checkJoin(t, list(quoted(0, " a  # ~!"), end(0)), `" a  # ~!"`, api.OK)
	checkJoin(t, list(integer(0, "0"), integer(0, "-999999999999999999"), end(0)), "0 -999999999999999999", api.OK)
	for _, s := range strings.Fields("{ } ( ) [ ] ; , : / = < > <= >=") {
		checkJoin(t, list(sign(0, s), end(0)), s, api.OK)
		checkJoin(t, list(sign(0, s), sign(0, s), end(0)), s+" "+s, api.OK)
	}
	for _, s := range append(strings.Fields(keywords), "A", "z9", "Zz_", "a__0", "x"+strings.Repeat("_", 100)) {
		checkJoin(t, list(word(0, s), end(0)), s, api.OK)
	}
}

// P6.2: the offsets do not matter.
func TestJoinIgnoresOffsets(t *testing.T) {
	for _, at := range []int{0, 1, -1, 7, math.MaxInt, math.MinInt} {
		checkJoin(t, list(word(at, "a"), integer(-at, "1"), quoted(at, "q"), sign(3, ";"), end(at)), `a 1 "q" ;`, api.OK)
		checkJoin(t, list(end(at)), "", api.OK)
	}
}

// unfit has tokens that cannot stand before the end.
func unfit() []api.Token {
	l := list(end(0), end(5), api.Token{Kind: api.TokEnd, Text: "a"}, api.Token{})
	for _, kind := range []int{0, -1, -2, 6, 7, 100, math.MaxInt, math.MinInt} {
		for _, text := range []string{"", "a", "1", ";", `"a"`} {
			l = append(l, api.Token{Kind: kind, Text: text})
		}
	}
	for _, s := range []string{"", " ", "1", "1a", "_", "_a", "-", "a b", " a", "a ", "a-b", "a;", ";", `"a"`, `"`, "a\n", "\n", "#", "a#", "é", "aé", "a\x00", "\x80", "a\xff", "0"} {
		l = append(l, word(0, s))
	}
	for _, s := range []string{"", "-", "-0", "00", "01", "-01", "--1", "+1", "1.5", "1 ", " 1", "- 1", "1-", "1a", "a", "1_", "_1", "0x1", "1e5", "1\n", "1\x00", "१",
		"1000000000000000000", "-1000000000000000000", "000000000000000000", "0000000000000000001", strings.Repeat("1", most), ";", `"1"`} {
		l = append(l, integer(0, s))
	}
	for _, s := range []string{"\x00", "\t", "\r", "\x0b", "\x1f", "\x7f", "\x80", "\xff", "é", "a\tb", "a\r\n", "\n\x1f", "ab\x7f", strings.Repeat("a", most) + "\t"} {
		l = append(l, quoted(0, s))
	}
	for _, s := range []string{"", " ", "a", "1", "-", "_", "#", `"`, `\`, "%", "!", "==", "=<", "=>", "<<", ">>", "<>", "!=", "<=>", "<= ", " <", "< =", "()", "{}", ";;", "//", "=\n", "<==", ".", "+", "\x00", "\xff", "«"} {
		l = append(l, sign(0, s))
	}
	return l
}

// P6.2: what cannot be joined, wherever it stands.
func TestJoinOfWrongTokens(t *testing.T) {
	checkJoin(t, nil, "", api.ErrArg)
	checkJoin(t, list(), "", api.ErrArg)
	for _, x := range unfit() {
		checkJoin(t, list(x, end(0)), "", api.ErrArg)
		checkJoin(t, list(x, word(0, "a"), end(0)), "", api.ErrArg)
		checkJoin(t, list(word(0, "a"), x, end(0)), "", api.ErrArg)
		checkJoin(t, list(word(0, "a"), x, sign(0, ";"), end(0)), "", api.ErrArg)
	}
	// Without an end, or with one that has a text.
	for _, x := range []api.Token{word(0, "a"), integer(0, "1"), quoted(0, ""), quoted(0, "a"), sign(0, ";"), {}, {Kind: 6}, {Kind: api.TokEnd, Text: "a"}, {Kind: api.TokEnd, Text: " "}, {Kind: api.TokEnd, Text: "\x00"}} {
		checkJoin(t, list(x), "", api.ErrArg)
		checkJoin(t, list(word(0, "a"), x), "", api.ErrArg)
		checkJoin(t, list(end(0), x), "", api.ErrArg)
	}
	checkJoin(t, list(end(0), end(0)), "", api.ErrArg)
	checkJoin(t, list(word(0, "a"), end(1), word(2, "b"), end(3)), "", api.ErrArg)
}

// P6.2: texts of one byte, of every kind and value, are joined or refused as defined.
func TestJoinOfEveryByte(t *testing.T) {
	for a := range 256 {
		for _, s := range []string{string([]byte{byte(a)}), "a" + string([]byte{byte(a)}), "1" + string([]byte{byte(a)}), "-" + string([]byte{byte(a)}), string([]byte{byte(a)}) + "=", "9" + string([]byte{byte(a)}) + "9"} {
			for kind := -1; kind <= 6; kind++ {
				l := list(api.Token{Kind: kind, Text: s}, end(0))
				want, f := "", api.ErrArg
				if a < 128 || kind != api.TokText {
					want, f = joinOf(l)
				}
				checkJoin(t, l, want, f)
			}
		}
	}
}

// P6.2: joined texts of 65536 bytes, and longer ones; tokens that do not fit are found behind the limit, too.
func TestJoinOfLongTexts(t *testing.T) {
	for _, x := range []struct {
		l []api.Token
		n int // bytes of the joined text
	}{
		{list(word(0, strings.Repeat("w", most))), most},
		{list(word(0, strings.Repeat("w", most+1))), most + 1},
		{list(word(0, strings.Repeat("w", 10*most))), 10 * most},
		{list(quoted(0, strings.Repeat("q", most-2))), most},
		{list(quoted(0, strings.Repeat("q", most-1))), most + 1},
		{list(quoted(0, strings.Repeat("q", most))), most + 2},
		{list(quoted(0, strings.Repeat(`"`, most/2-1))), most},
		{list(quoted(0, strings.Repeat(`\`, most/2-1)+"q")), most + 1},
		{list(quoted(0, strings.Repeat("\n", most/2))), most + 2},
		{list(word(0, strings.Repeat("w", most-2)), sign(0, ";")), most},
		{list(word(0, strings.Repeat("w", most-2)), sign(0, "<=")), most + 1},
		{list(sign(0, ";"), word(0, strings.Repeat("w", most-1))), most + 1},
		{list(sign(0, ";"), sign(0, ";"), word(0, strings.Repeat("w", most-4))), most},
		{append(slices.Repeat(list(sign(0, ";")), most/2-1), sign(0, "<=")), most},
		{append(slices.Repeat(list(sign(0, ";")), most/2-1), integer(0, "-12")), most + 1},
		{slices.Repeat(list(sign(0, ";")), most/2), most - 1},
		{slices.Repeat(list(sign(0, ";")), most/2+1), most + 1},
		{slices.Repeat(list(integer(0, "1")), most), 2*most - 1},
	} {
		b, e := lexis.Join(append(slices.Clip(x.l), end(0)))
		if x.n <= most && (len(b) != x.n || e != api.OK) || x.n > most && (len(b) != 0 || e != api.ErrLimit) {
			t.Errorf("Join of %d tokens has %d bytes, %d, want %d bytes", len(x.l), len(b), e, x.n)
		}
		for _, bad := range []api.Token{{}, end(0), word(0, ""), integer(0, "00"), quoted(0, "\t"), sign(0, "!")} {
			if b, e := lexis.Join(append(slices.Clip(x.l), bad, end(0))); len(b) != 0 || e != api.ErrArg {
				t.Errorf("Join of %d tokens and %v has %d bytes, %d, want ErrArg", len(x.l), bad, len(b), e)
			}
		}
		if b, e := lexis.Join(x.l); len(b) != 0 || e != api.ErrArg {
			t.Errorf("Join of %d tokens without an end has %d bytes, %d, want ErrArg", len(x.l), len(b), e)
		}
	}
}

// P6.2: drawn tokens of every kind, whose texts fit mostly, are joined or refused as defined.
func TestJoinByDefinition(t *testing.T) {
	r, texts := drawn(), append(pieces(), `a"b`, "\n", "x y", "<", "12", "name")
	for range 60000 {
		var l []api.Token
		for range r.IntN(6) {
			x := api.Token{Kind: r.IntN(5), Text: texts[r.IntN(len(texts))], At: r.IntN(9)}
			if fits(x) || r.IntN(20) == 0 {
				l = append(l, x)
			}
		}
		if r.IntN(20) > 0 {
			l = append(l, end(r.IntN(9)))
		}
		want, f := joinOf(l)
		checkJoin(t, l, want, f)
	}
}

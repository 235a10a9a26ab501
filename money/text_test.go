package money_test

import (
	"strings"
	"testing"

	"assize/api"
	"assize/money"
)

// P5.3: texts that are known, in both directions.
func TestTextsAndTheirAmounts(t *testing.T) {
	for _, x := range []struct {
		n int
		s string
	}{
		{0, "0.00"}, {1, "0.01"}, {-1, "-0.01"}, {5, "0.05"}, {-5, "-0.05"}, {9, "0.09"}, {10, "0.10"}, {-10, "-0.10"},
		{50, "0.50"}, {99, "0.99"}, {-99, "-0.99"}, {100, "1.00"}, {-100, "-1.00"}, {101, "1.01"}, {-101, "-1.01"},
		{110, "1.10"}, {199, "1.99"}, {-199, "-1.99"}, {700, "7.00"}, {999, "9.99"}, {1000, "10.00"}, {-1000, "-10.00"},
		{1005, "10.05"}, {10000, "100.00"}, {123456, "1234.56"}, {-123456, "-1234.56"}, {100000000, "1000000.00"},
		{1 << 32, "42949672.96"}, {-1 << 32, "-42949672.96"},
		{most, "11258999068426.24"}, {-most, "-11258999068426.24"}, {most - 1, "11258999068426.23"}, {1 - most, "-11258999068426.23"},
	} {
		if s, e := money.Text(x.n); s != x.s || e != api.OK {
			t.Errorf("Text(%d) = %q, %d, want %q", x.n, s, e, x.s)
		}
		if n, e := money.Parse(x.s); n != x.n || e != api.OK {
			t.Errorf("Parse(%q) = %d, %d, want %d", x.s, n, e, x.n)
		}
	}
}

// checkText compares the text of an amount with the definition, and reads it.
func checkText(t *testing.T, n int) {
	t.Helper()
	s, e := money.Text(n)
	if s != textOf(n) || e != api.OK {
		t.Fatalf("Text(%d) = %q, %d, want %q", n, s, e, textOf(n))
	}
	if m, e := money.Parse(s); m != n || e != api.OK {
		t.Fatalf("Parse(%q) = %d, %d, want %d", s, m, e, n)
	}
}

// P5.3: small amounts, great ones, and drawn ones have the texts of the definition, which are read as these amounts.
func TestTextsByDefinition(t *testing.T) {
	for n := -20000; n <= 20000; n++ {
		checkText(t, n)
	}
	for n := range 300 {
		checkText(t, most-n)
		checkText(t, n-most)
	}
	for _, n := range amounts() {
		checkText(t, n)
	}
	r := drawn()
	for range 20000 {
		checkText(t, drawnAmount(r))
	}
}

// P5.3: what is no amount has no text.
func TestTextOfNoAmount(t *testing.T) {
	for _, n := range beyond() {
		if s, e := money.Text(n); s != "" || e != api.ErrAmount {
			t.Errorf("Text(%d) = %q, %d, want ErrAmount", n, s, e)
		}
	}
}

// P5.3: what is no text of an amount, each for its reason.
func TestParseOfNoTexts(t *testing.T) {
	for _, s := range []string{
		"", "-", ".", "+", " ", "-.", "a", "\x00", "\xff", "--",
		// Signs.
		"-0.00", "+0.00", "+1.00", "--1.00", "-+1.00", "+-1.00", "1.00-", "1-.00", "1.-00", "1.0-0", "- 1.00", "1.-5", "1.+5", "0.-5", "0.+05", ".-05", "-.-5",
		// Zeros.
		"007.00", "00.00", "01.00", "-01.00", "-00.01", "00.05", "000.00", "010.00",
		// Points.
		"5", "05", "005", "100", "-5", "-005", "1234", ".05", "-.05", ".00", ".5", ".", "1.", "-1.", "0.", "1..00", "..00", "1.0.0", ".1.00", "1.00.", "1.00.00", "1,00", "1:00", "1.000.00",
		// Digits.
		"1.5", "0.5", "-0.5", "1.0", "1.500", "1.000", "0.000", "0.005", "1.0000", "12.3", "-12.345",
		// Other bytes.
		" 1.00", "1.00 ", "1 .00", "1. 00", "1.0 0", "1 000.00", "1_000.00", "1.0_0", "1'000.00", "1,000.00", "1.00\n", "\n1.00", "1.00\x00", "\x001.00",
		"0x1.00", "0x.10", "0b1.00", "0o7.00", "1e2.00", "1.e2", "1.00e0", "1.0e", "a.bc", "1.ab", "x1.00", "1.00x", "NaN", "Inf", "-Inf", "1.0O", "l.00", "EUR 1.00", "1.00 EUR", "$1.00",
		// Minus signs and digits of other scripts.
		"\u22121.00", "\u0661.\u0660\u0660", "1.\u0660\u0660", "\uff11.00", "1\u066b00", "1.00\u00a0", "\ufeff1.00",
		// Numbers that are too large.
		"11258999068426.25", "-11258999068426.25", "11258999068427.00", "11258999068427.24", "-11258999068427.00", "21258999068426.24", "111258999068426.24", "99999999999999.99",
		"92233720368547758.07", "-92233720368547758.08", "92233720368547758.08", "-92233720368547758.09",
		// These wrap around to 1, -1 and 2^50.
		"184467440737095516.17", "-184467440737095516.17", "184478699736163942.40", "999999999999999999999999999999999999.99",
		"1" + strings.Repeat("0", 65536) + ".00", strings.Repeat("0", 65536) + "1.00", "1." + strings.Repeat("0", 65536), strings.Repeat("-", 1000) + "1.00", strings.Repeat(".", 1000),
	} {
		if n, e := money.Parse(s); n != 0 || e != api.ErrAmount {
			t.Errorf("Parse(%.40q) of %d bytes = %d, %d, want ErrAmount", s, len(s), n, e)
		}
	}
}

func checkParse(t *testing.T, s string) {
	t.Helper()
	want, f := parseOf(s)
	if n, e := money.Parse(s); n != want || e != f {
		t.Fatalf("Parse(%q) = %d, %d, want %d, %d", s, n, e, want, f)
	}
}

// P5.3: every short string is read, or refused, as defined.
func TestParseOfEveryShortString(t *testing.T) {
	const letters = "-+.0159 _x"
	var extend func(s string)
	extend = func(s string) {
		checkParse(t, s)
		for i := 0; len(s) < 5 && i < len(letters); i++ {
			extend(s + letters[i:i+1])
		}
	}
	extend("")
	for a := range 256 {
		for _, s := range []string{"", "1.0", "1.00", "-1.00", "1", ".00", "10.0"} {
			checkParse(t, string([]byte{byte(a)})+s)
			checkParse(t, s+string([]byte{byte(a)}))
		}
	}
}

// P5.3: texts of amounts in which one byte is left out, changed or put in are read, or refused, as defined.
func TestParseOfDamagedTexts(t *testing.T) {
	const letters = "-+.0123456789 eE_,x\x00\xb2"
	for _, n := range amounts() {
		s := textOf(n)
		for i := range len(s) + 1 {
			for _, c := range letters {
				checkParse(t, s[:i]+string(c)+s[i:])
				if i < len(s) {
					checkParse(t, s[:i]+string(c)+s[i+1:])
				}
			}
			if i < len(s) {
				checkParse(t, s[:i]+s[i+1:])
				checkParse(t, s[i:]+s[:i])
			}
		}
	}
}

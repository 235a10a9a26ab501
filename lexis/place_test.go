package lexis_test

import (
	"math"
	"strings"
	"testing"

	"assize/api"
	"assize/lexis"
)

func checkPlace(t *testing.T, src string, at, line, column int, f api.Errno) {
	t.Helper()
	b := []byte(src)
	if n, m, e := lexis.Place(b, at); n != line || m != column || e != f {
		t.Errorf("Place(%.40q of %d bytes, %d) = %d, %d, %d, want %d, %d, %d", src, len(src), at, n, m, e, line, column, f)
	}
	if string(b) != src {
		t.Errorf("Place has changed %.40q", src)
	}
}

// P6.3: places that are known.
func TestPlace(t *testing.T) {
	checkPlace(t, "", 0, 1, 1, api.OK)
	checkPlace(t, "a", 0, 1, 1, api.OK)
	checkPlace(t, "a", 1, 1, 2, api.OK)
	for at, place := range [][2]int{{1, 1}, {1, 2}, {1, 3}, {2, 1}, {2, 2}} {
		checkPlace(t, "ab\nc", at, place[0], place[1], api.OK)
	}
	for at, place := range [][2]int{{1, 1}, {2, 1}, {3, 1}, {3, 2}, {4, 1}} {
		checkPlace(t, "\n\nx\n", at, place[0], place[1], api.OK)
	}
	// No other bytes begin a line, and columns count bytes.
	for at, place := range [][2]int{{1, 1}, {1, 2}, {1, 3}, {1, 4}, {1, 5}, {1, 6}, {1, 7}, {2, 1}, {2, 2}} {
		checkPlace(t, "\r\vä\x00\t\n\xff", at, place[0], place[1], api.OK)
	}
}

// P6.3, R1: texts that are too long come before offsets that are outside, which are errors on both sides.
func TestPlaceOfWrongArguments(t *testing.T) {
	outside := []int{-1, -2, -1000, math.MinInt, math.MinInt + 1, math.MinInt32, math.MaxInt, math.MaxInt - 1, 1 << 31, 1 << 32}
	for _, src := range []string{"", "a", "\n", "ab\nc", strings.Repeat("\n", most)} {
		for _, at := range append(outside, len(src)+1, len(src)+2) {
			checkPlace(t, src, at, 0, 0, api.ErrArg)
		}
	}
	for _, letter := range []string{"a", "\n", "\xff"} {
		for _, n := range []int{most + 1, most + 2, 10 * most} {
			for _, at := range append(outside, 0, 1, most, most+1, n, n+1) {
				checkPlace(t, strings.Repeat(letter, n), at, 0, 0, api.ErrLimit)
			}
		}
	}
}

// P6.3: the first and the last offsets of texts of 65536 bytes.
func TestPlaceInLongTexts(t *testing.T) {
	checkPlace(t, strings.Repeat("a", most), 0, 1, 1, api.OK)
	checkPlace(t, strings.Repeat("a", most), most, 1, most+1, api.OK)
	checkPlace(t, strings.Repeat("a", most), most-1, 1, most, api.OK)
	checkPlace(t, strings.Repeat("\n", most), 0, 1, 1, api.OK)
	checkPlace(t, strings.Repeat("\n", most), most, most+1, 1, api.OK)
	checkPlace(t, strings.Repeat("\n", most), most-1, most, 1, api.OK)
	checkPlace(t, strings.Repeat("ab\n", most/3), most-1, most/3+1, 1, api.OK)
	checkPlace(t, strings.Repeat("ab\n", most/3), most-2, most/3, 3, api.OK)
}

// P6.3: every offset of every short text, and of drawn ones, has the place at which counting arrives.
func TestPlaceByCounting(t *testing.T) {
	check := func(src string) {
		line, column := 1, 1
		for at := range len(src) + 1 {
			checkPlace(t, src, at, line, column, api.OK)
			column++
			if at < len(src) && src[at] == 10 {
				line, column = line+1, 1
			}
		}
		checkPlace(t, src, len(src)+1, 0, 0, api.ErrArg)
	}
	eachText(7, "a\n\r", check)
	eachDrawnText(2000, check)
	for a := range 256 {
		check("a" + string([]byte{byte(a)}) + "b\n" + string([]byte{byte(a), byte(a)}))
	}
}

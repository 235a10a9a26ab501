package sheets_test

import (
	"math"
	"math/rand/v2"
	"slices"
	"testing"

	"assize/api"
	"assize/facts"
	"assize/sheets"
)

// expectPrevails reports an error unless the sheet of a fact prevails, in whatever order the facts are given.
func expectPrevails(t *testing.T, f api.Fact, l ...api.Fact) {
	t.Helper()
	for at := range len(l) + 1 {
		all := with(l, at, f)
		expectLatest(t, all, f.Sheet.Game, f.Sheet.Referee, f.Sheet, f.Day, true)
		slices.Reverse(all)
		expectLatest(t, all, f.Sheet.Game, f.Sheet.Referee, f.Sheet, f.Day, true)
	}
}

// P9.1: the examples of the chapter.
func TestExamplesOfLatest(t *testing.T) {
	for _, l := range [][]api.Fact{nil, {}} {
		expectLatest(t, l, cup, 0, api.Sheet{}, 0, false)
		expectLatest(t, l, api.Game{}, 1, api.Sheet{}, 0, false)
	}
	first, corrected := report(7, 8, 0, full()), report(7, 10, 0, variants()[0].s)
	expectLatest(t, []api.Fact{first, corrected}, cup, 2, api.Sheet{}, 0, false)
	expectPrevails(t, corrected, first)
	copied := deep(report(7, 8, 1, full()))
	if !sheets.Same(first.Sheet, copied.Sheet) {
		t.Error("a sheet and a copy of it with the other referee do not say the same")
	}
}

// P9.1: a sheet of one referee, asked for by all numbers of referees, and by games of which there is none.
func TestLatestOfOne(t *testing.T) {
	for _, g := range games() {
		for referee := range 2 {
			f := report(9, 12, referee, about(g, full()))
			for _, n := range []int{math.MinInt, -256, -2, -1, 0, 1, 2, 3, 255, 256, 257, 1 << 32, 1<<32 + 1, math.MaxInt} {
				if n == referee {
					expectLatest(t, []api.Fact{f}, g, n, f.Sheet, 9, true)
				} else {
					expectLatest(t, []api.Fact{f}, g, n, api.Sheet{}, 0, false)
				}
			}
			for _, other := range append(games(), impossible()...) {
				if other != g {
					expectLatest(t, []api.Fact{f}, other, referee, api.Sheet{}, 0, false)
				}
			}
		}
	}
}

// P9.1: Known decides, then Day, then the encoding, byte by byte; the index in the list does not.
func TestCorrections(t *testing.T) {
	a, b := full(), variants()[0].s
	for referee := range 2 {
		for _, x := range []struct{ day, known, lateDay, lateKnown int }{
			{5, 5, 5, 6}, {5, 5, 4, 6}, {5, 5, 6, 6}, {5, 5, 0, lastDay}, {lastDay, 5, 0, 6}, {5, 5, 6, 5}, {0, 0, lastDay, 0},
			{0, lastDay, lastDay, lastDay}, {0, 0, 0, lastDay}, {lastDay, lastDay - 1, 0, lastDay},
		} {
			expectPrevails(t, report(x.lateDay, x.lateKnown, referee, a), report(x.day, x.known, referee, b))
			expectPrevails(t, report(x.lateDay, x.lateKnown, referee, b), report(x.day, x.known, referee, a))
		}
		goals := func(n int) api.Fact {
			s := full()
			s.HomeGoals = n
			return report(5, 5, referee, s)
		}
		// The encoding of 10 begins with that of 1, and is less than that of 2.
		expectPrevails(t, goals(2), goals(10))
		expectPrevails(t, goals(9), goals(2), goals(10), goals(99), goals(0))
		expectPrevails(t, goals(99), goals(10), goals(11), goals(98))
	}
}

// P9.1: the sheets of the other referee, whatever they say and whenever they are known, have no effect.
func TestLatestOfBoth(t *testing.T) {
	for referee := range 2 {
		f := report(5, 5, referee, full())
		for _, s := range []api.Sheet{full(), variants()[0].s, variants()[3].s} {
			for _, known := range []int{0, 4, 5, 6, lastDay} {
				for _, day := range []int{0, 4, 5, 6, lastDay} {
					expectPrevails(t, f, report(day, known, 1-referee, s))
				}
			}
		}
	}
}

// P9.1: of three sheets of a referee, on all days.
func TestThreeSheets(t *testing.T) {
	days := []int{0, 5, lastDay}
	var all []api.Fact
	for i, known := range days {
		for k, day := range days {
			all = append(all, report(day, known, 1, variants()[i].s), report(day, known, 1, variants()[3+k].s))
		}
	}
	for _, a := range all {
		for _, b := range all {
			for _, c := range all {
				l := []api.Fact{a, b, c}
				s, day, ok := latestOf(l, cup, 1)
				expectLatest(t, l, cup, 1, s, day, ok)
			}
		}
	}
}

// The damaged facts are what they are meant to be: otherwise their tests would show little.
func TestDamages(t *testing.T) {
	for _, s := range append(variants(), variant{"none", full()}) {
		for _, g := range games() {
			f := report(5, 5, 0, about(g, s.s))
			if e := facts.Check(f); e != api.OK {
				t.Errorf("Check(%+v) = %d", f, e)
			}
			for _, d := range append(damaged(f), report(5, 5, 2, f.Sheet), report(5, 5, -1, f.Sheet)) {
				if facts.Check(d) == api.OK {
					t.Errorf("%+v is valid", d)
				}
			}
			for _, o := range others(g) {
				if e := facts.Check(o); e != api.OK || o.Kind == api.SheetF {
					t.Errorf("Check(%+v) = %d", o, e)
				}
			}
		}
	}
}

// P9.1: facts that are not valid are ignored, at the beginning, in the middle and at the end, and if there is nothing else.
func TestLatestWithDamagedFacts(t *testing.T) {
	for referee := range 2 {
		f, early := report(5, 5, referee, full()), report(9, 4, referee, variants()[0].s)
		for _, d := range damaged(f) {
			expectLatest(t, []api.Fact{d}, cup, referee, api.Sheet{}, 0, false)
			expectLatest(t, []api.Fact{d, d}, cup, referee, api.Sheet{}, 0, false)
			expectLatest(t, []api.Fact{d, report(5, 5, 1-referee, full())}, cup, referee, api.Sheet{}, 0, false)
			expectPrevails(t, f, d)
			expectPrevails(t, f, early, d)
			expectPrevails(t, f, d, early, d)
		}
		expectPrevails(t, f, damaged(f)...)
		expectPrevails(t, f, append(damaged(f), early)...)
	}
}

// P9.1: sheets of referees, and of games, that no fact can have: they are not valid, and found by no numbers.
func TestImpossibleSheets(t *testing.T) {
	for _, referee := range []int{math.MinInt, -1, 2, 3, math.MaxInt} {
		f := report(5, 5, referee, full())
		for n := -1; n <= 3; n++ {
			expectLatest(t, []api.Fact{f}, cup, n, api.Sheet{}, 0, false)
		}
		expectLatest(t, []api.Fact{f}, cup, referee, api.Sheet{}, 0, false)
		expectPrevails(t, report(0, 0, 1, full()), f)
	}
	for _, g := range impossible() {
		l := []api.Fact{report(5, 5, 0, about(g, full())), report(5, 5, 1, about(g, full()))}
		for n := range 2 {
			expectLatest(t, l, g, n, api.Sheet{}, 0, false)
		}
	}
}

// P9.1: facts of all kinds, damaged and repeated ones, as the definition says.
func TestDrawnLatest(t *testing.T) {
	r := rand.New(rand.NewPCG(9, 1))
	found := 0
	for i := range 300 {
		l := drawn(r, i%40)
		for range 10 {
			g := games()[r.IntN(len(games()))]
			compareGame(t, l, g)
			if _, _, ok := latestOf(l, g, r.IntN(2)); ok {
				found++
			}
		}
	}
	if found < 500 {
		t.Errorf("only %d sheets are found", found)
	}
}

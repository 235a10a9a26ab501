package sheets_test

import (
	"math/rand/v2"
	"slices"
	"testing"

	"assize/api"
)

// expectScores reports an error unless the score is this one, in whatever order two facts are given.
func expectScores(t *testing.T, a, b api.Fact, want api.Score) {
	t.Helper()
	expectScore(t, []api.Fact{a, b}, a.Sheet.Game, want)
	expectScore(t, []api.Fact{b, a}, a.Sheet.Game, want)
	expectScore(t, []api.Fact{a, b, a, b, a}, a.Sheet.Game, want)
}

// P9.2: the examples of the chapter.
func TestExamplesOfScore(t *testing.T) {
	for _, l := range [][]api.Fact{nil, {}} {
		expectScore(t, l, cup, api.Score{})
		expectScore(t, l, api.Game{}, api.Score{})
	}
	f := report(7, 12, 1, full())
	expectScore(t, []api.Fact{f}, cup, api.Score{Kind: 1, Sheet: f.Sheet, Day: 7})
	g := report(8, 12, 0, full())
	g.Sheet.HomeCards = []api.Card{{Player: 15}}
	expectScores(t, f, g, api.Score{Kind: 3, Day: 8})
}

// P9.2: both sheets say the same, on days that differ either way: the sheet is that of the referee 0, and the Day the
// greater one of both, whenever they were known.
func TestAgreement(t *testing.T) {
	days := []int{0, 1, 5, 6, lastDay - 1, lastDay}
	for _, g := range games() {
		s := about(g, full())
		for _, first := range days {
			for _, second := range days {
				a, b := report(first, 4, 0, s), report(second, 9, 1, s)
				expectScores(t, a, b, api.Score{Kind: 2, Sheet: a.Sheet, Day: max(first, second)})
				a.Known, b.Known = b.Known, a.Known
				expectScores(t, a, b, api.Score{Kind: 2, Sheet: a.Sheet, Day: max(first, second)})
				b.Sheet.AwayGoals = 5
				expectScores(t, a, b, api.Score{Kind: 3, Day: max(first, second)})
			}
		}
	}
}

// P9.2: sheets that differ in one field alone, for each field, are a dispute; those that are equal are none, though one
// has nil slices and the other one empty ones.
func TestDifferences(t *testing.T) {
	all := append(variants(), variant{"none", full()}, variant{"some", api.Sheet{Game: cup}}, variant{"squads", api.Sheet{Game: cup, HomeSquad: []int{1}}})
	for i, v := range all {
		for k, w := range all {
			a, b := report(5, 9, 0, v.s), report(6, 8, 1, w.s)
			if i == k {
				expectScores(t, a, deep(b), api.Score{Kind: 2, Sheet: a.Sheet, Day: 6})
			} else {
				expectScores(t, a, b, api.Score{Kind: 3, Day: 6})
			}
		}
	}
}

// P9.2: the sheet of one referee only, also if there are several, or if the other one's are about other games.
func TestOneReferee(t *testing.T) {
	for referee := range 2 {
		f := report(5, 9, referee, full())
		l := []api.Fact{f, report(9, 8, referee, variants()[0].s), report(0, 0, referee, full())}
		expectScore(t, l, cup, api.Score{Kind: 1, Sheet: f.Sheet, Day: 5})
		for _, g := range games() {
			if g != cup {
				l = append(l, report(5, 9, 1-referee, about(g, full())))
			}
		}
		expectScore(t, l, cup, api.Score{Kind: 1, Sheet: f.Sheet, Day: 5})
	}
}

// P9.2: only the sheets that prevail count, both for what is said and for the day.
func TestCorrectedScores(t *testing.T) {
	a, b := full(), variants()[0].s
	for referee := range 2 {
		other := report(5, 5, 1-referee, a)
		zero := func(f api.Fact) api.Sheet {
			s := f.Sheet
			s.Referee = 0
			return s
		}
		for _, x := range []struct{ early, late api.Fact }{
			{report(9, 6, referee, b), report(4, 7, referee, a)}, {report(3, 6, referee, b), report(4, 6, referee, a)},
			{report(lastDay, 0, referee, b), report(0, lastDay, referee, a)},
		} {
			day := max(x.late.Day, 5)
			for _, l := range [][]api.Fact{{x.early, x.late, other}, {x.late, other, x.early}, {other, x.late, x.early}} {
				expectScore(t, l, cup, api.Score{Kind: 2, Sheet: zero(other), Day: day})
			}
			// The other way round, the correction leads to a dispute.
			x.early.Sheet, x.late.Sheet = x.late.Sheet, x.early.Sheet
			for _, l := range [][]api.Fact{{x.early, x.late, other}, {x.late, other, x.early}, {other, x.late, x.early}} {
				expectScore(t, l, cup, api.Score{Kind: 3, Day: day})
			}
		}
	}
}

// P9.2: facts that are not valid are ignored, wherever they are, also as the only sheet of a referee.
func TestScoreWithDamagedFacts(t *testing.T) {
	for referee := range 2 {
		f, other := report(5, 5, referee, full()), report(6, 6, 1-referee, full())
		agreed := full()
		agreed.Referee = 0
		for _, d := range damaged(f) {
			expectScore(t, []api.Fact{d}, cup, api.Score{})
			expectScores(t, d, other, api.Score{Kind: 1, Sheet: other.Sheet, Day: 6})
			for at := range 3 {
				expectScore(t, with([]api.Fact{f, other}, at, d), cup, api.Score{Kind: 2, Sheet: agreed, Day: 6})
			}
		}
		all := append(damaged(f), damaged(other)...)
		expectScore(t, all, cup, api.Score{})
		expectScore(t, slices.Concat(all, []api.Fact{other, f}, all), cup, api.Score{Kind: 2, Sheet: agreed, Day: 6})
	}
	for _, g := range impossible() {
		l := []api.Fact{report(5, 5, 0, about(g, full())), report(5, 5, 1, about(g, full()))}
		expectScore(t, l, g, api.Score{})
	}
}

// P9.2: drawn facts, as the definition says.
func TestDrawnScores(t *testing.T) {
	r := rand.New(rand.NewPCG(9, 2))
	kinds := map[int]int{}
	for i := range 300 {
		l := drawn(r, i%60)
		for _, g := range append(games(), impossible()[r.IntN(len(impossible()))]) {
			want := scoreOf(l, g)
			expectScore(t, l, g, want)
			kinds[want.Kind]++
		}
	}
	for kind := range 4 {
		if kinds[kind] < 200 {
			t.Errorf("only %d scores are of the kind %d", kinds[kind], kind)
		}
	}
}

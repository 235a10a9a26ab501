package sheets_test

import (
	"math"
	"slices"
	"testing"

	"assize/api"
	"assize/sheets"
)

// The functions below call a function of the package with a list that shares no memory with the given one, and report an
// error unless it returns what is expected, and leaves the list as it was, and the space behind it too.

func expectLatest(t *testing.T, l []api.Fact, g api.Game, referee int, want api.Sheet, wantDay int, wantOK bool) {
	t.Helper()
	arg, intact := guarded(l)
	if s, day, ok := sheets.Latest(arg, g, referee); !equal(s, want) || day != wantDay || ok != wantOK || !intact() {
		t.Errorf("Latest(%d facts, %+v, %d) = %+v, %d, %t, want %+v, %d, %t, intact %t",
			len(l), g, referee, s, day, ok, want, wantDay, wantOK, intact())
	}
}

func expectScore(t *testing.T, l []api.Fact, g api.Game, want api.Score) {
	t.Helper()
	arg, intact := guarded(l)
	if x := sheets.Score(arg, g); x.Kind != want.Kind || !equal(x.Sheet, want.Sheet) || x.Day != want.Day || !intact() {
		t.Errorf("Score(%d facts, %+v) = %+v, want %+v, intact %t", len(l), g, x, want, intact())
	}
}

func expectGames(t *testing.T, l []api.Fact, season, comp int, want ...api.Game) {
	t.Helper()
	arg, intact := guarded(l)
	if x := sheets.Games(arg, season, comp); !slices.Equal(x, want) || !intact() {
		t.Errorf("Games(%d facts, %d, %d) = %+v, want %+v, intact %t", len(l), season, comp, x, want, intact())
	}
}

func expectDisputes(t *testing.T, l []api.Fact, want ...api.Game) {
	t.Helper()
	arg, intact := guarded(l)
	if x := sheets.Disputes(arg); !slices.Equal(x, want) || !intact() {
		t.Errorf("Disputes(%d facts) = %+v, want %+v, intact %t", len(l), x, want, intact())
	}
}

// compareGame compares what is said of a game with the definition.
func compareGame(t *testing.T, l []api.Fact, g api.Game) {
	t.Helper()
	for _, referee := range []int{0, 1, 2, -1, math.MaxInt} {
		s, day, ok := latestOf(l, g, referee)
		expectLatest(t, l, g, referee, s, day, ok)
	}
	expectScore(t, l, g, scoreOf(l, g))
}

// compareAll compares all that is said of some facts with the definition.
func compareAll(t *testing.T, l []api.Fact) {
	t.Helper()
	for _, g := range append(games(), impossible()...) {
		compareGame(t, l, g)
		expectGames(t, l, g.Season, g.Comp, gamesOf(l, g.Season, g.Comp)...)
	}
	expectDisputes(t, l, disputesOf(l)...)
}

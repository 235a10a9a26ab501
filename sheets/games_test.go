package sheets_test

import (
	"math"
	"math/rand/v2"
	"slices"
	"testing"

	"assize/api"
	"assize/sheets"
)

// P9.3: the examples of the chapter.
func TestExamplesOfGames(t *testing.T) {
	for _, l := range [][]api.Fact{nil, {}} {
		expectGames(t, l, 0, 0)
		expectGames(t, l, 4, 9)
		expectDisputes(t, l)
	}
}

// P9.3: games in order by Season, Comp, Home and Away, each once, of one referee or both, agreed or not.
func TestGamesInOrder(t *testing.T) {
	r := rand.New(rand.NewPCG(9, 3))
	var l, disputed []api.Fact
	for i, g := range games() {
		a, b := report(i, 9, 0, about(g, full())), report(9, i, 1, about(g, full()))
		l = append(l, [][]api.Fact{{a}, {b}, {a, b}, {a, b, b}}[i%4]...)
		b.Sheet.AwayGoals++
		disputed = append(disputed, a, b)
	}
	for range 20 {
		for _, all := range [][]api.Fact{shuffled(r, l), shuffled(r, disputed)} {
			for _, g := range append(games(), impossible()...) {
				var want []api.Game
				for _, h := range games() {
					if h.Season == g.Season && h.Comp == g.Comp {
						want = append(want, h)
					}
				}
				expectGames(t, all, g.Season, g.Comp, want...)
			}
			expectGames(t, all, 4, 2, games()[3:9]...)
		}
		expectDisputes(t, shuffled(r, l))
		expectDisputes(t, shuffled(r, disputed), games()...)
	}
}

// P9.3: seasons and competitions that no fact can have, also if facts that are not valid have them.
func TestImpossibleCompetitions(t *testing.T) {
	l := []api.Fact{report(5, 5, 0, about(games()[0], full())), report(5, 5, 1, about(games()[0], full()))}
	seasons := []int{math.MinInt, -256, -1, 64, 256, 1 << 32, math.MaxInt}
	comps := []int{math.MinInt, -256, -1, 16, 256, 1 << 32, math.MaxInt}
	for i, season := range seasons {
		for _, g := range []api.Game{{Season: season, Away: 1}, {Comp: comps[i], Away: 1}, {Season: season, Comp: comps[i], Away: 1}} {
			l = append(l, report(5, 5, 0, about(g, full())), report(5, 5, 1, about(g, api.Sheet{})))
			expectGames(t, l, g.Season, g.Comp)
		}
	}
	expectGames(t, l, 0, 0, games()[0])
	expectDisputes(t, l)
	for _, g := range impossible() {
		l = append(l, report(5, 5, 0, about(g, full())), report(5, 5, 1, about(g, api.Sheet{})))
		expectDisputes(t, l)
	}
	expectGames(t, l, 0, 0, games()[0])
}

// P9.3: facts that are not valid are ignored: they show no game, and they neither end a dispute nor begin one.
func TestGamesWithDamagedFacts(t *testing.T) {
	a, b := report(5, 5, 0, full()), report(6, 6, 1, full())
	c := report(6, 6, 1, variants()[0].s)
	for _, d := range append(damaged(a), damaged(b)...) {
		expectGames(t, []api.Fact{d}, 4, 9)
		expectDisputes(t, []api.Fact{d})
		for at := range 3 {
			expectGames(t, with([]api.Fact{a, b}, at, d), 4, 9, cup)
			expectDisputes(t, with([]api.Fact{a, b}, at, d))
			expectDisputes(t, with([]api.Fact{a, c}, at, d), cup)
		}
		expectDisputes(t, []api.Fact{a, d})
		expectDisputes(t, []api.Fact{d, b})
	}
}

// P9.3: facts of other kinds show no game.
func TestGamesOfOtherKinds(t *testing.T) {
	for _, g := range games() {
		l := others(g)
		expectGames(t, l, g.Season, g.Comp)
		expectDisputes(t, l)
		expectGames(t, append(l, report(5, 5, 1, about(g, full()))), g.Season, g.Comp, g)
	}
}

// P9.3: disputes begin and end with the sheets that prevail.
func TestDisputesThatEnd(t *testing.T) {
	a, b := report(5, 5, 0, full()), report(5, 5, 1, variants()[0].s)
	expectDisputes(t, []api.Fact{a})
	expectDisputes(t, []api.Fact{b})
	expectDisputes(t, []api.Fact{a, b}, cup)
	corrected := report(0, 6, 1, full())
	expectDisputes(t, []api.Fact{corrected, a, b})
	late := report(0, 7, 0, variants()[1].s)
	expectDisputes(t, []api.Fact{corrected, late, a, b}, cup)
	expectDisputes(t, []api.Fact{corrected, late, report(0, 8, 1, variants()[1].s), a, b})
	elsewhere := report(0, 8, 1, about(in, variants()[1].s))
	expectDisputes(t, []api.Fact{corrected, elsewhere, late, a, b}, cup)
}

// P9.3: drawn facts, as the definition says.
func TestDrawnGames(t *testing.T) {
	r := rand.New(rand.NewPCG(9, 4))
	disputes := map[int]int{}
	for i := range 150 {
		l := drawn(r, i)
		for _, g := range append(games(), impossible()...) {
			expectGames(t, l, g.Season, g.Comp, gamesOf(l, g.Season, g.Comp)...)
		}
		want := disputesOf(l)
		expectDisputes(t, l, want...)
		disputes[len(want)]++
	}
	if len(disputes) < 8 {
		t.Errorf("there are hardly different disputes: %v", disputes)
	}
}

// P9.3: about as many facts as a ledger may have, in any order: the sheets of both referees of the games of a season of
// two competitions. Every seventh game is disputed.
func TestManyGames(t *testing.T) {
	const clubs = 128
	var l []api.Fact
	var want [2][]api.Game
	var disputed []api.Game
	for i := range 65536 / 2 {
		g := api.Game{Season: 63, Comp: 6 + i%2, Home: i / 2 / clubs, Away: i / 2 % clubs}
		if g.Home == g.Away {
			continue
		}
		s := api.Sheet{Game: g, HomeGoals: i % 5}
		l = append(l, report(i, i, 0, s))
		if i%7 == 0 {
			s.AwayGoals = 1
			disputed = append(disputed, g)
		}
		l = append(l, report(lastDay-i, i+1, 1, s))
		want[i%2] = append(want[i%2], g)
	}
	slices.SortStableFunc(disputed, func(a, b api.Game) int { return a.Comp - b.Comp })
	l = shuffled(rand.New(rand.NewPCG(9, 5)), l)
	for comp := range 2 {
		if x := sheets.Games(l, 63, 6+comp); !slices.Equal(x, want[comp]) {
			t.Errorf("%d games, want %d", len(x), len(want[comp]))
		}
	}
	if x := sheets.Disputes(l); !slices.Equal(x, disputed) {
		t.Errorf("%d disputes, want %d", len(x), len(disputed))
	}
	for _, g := range disputed[:20] {
		i := 2*(g.Home*clubs+g.Away) + g.Comp - 6
		if x := sheets.Score(l, g); x.Kind != api.DisputeS || x.Day != lastDay-i {
			t.Errorf("Score(%+v) = %+v", g, x)
		}
	}
}

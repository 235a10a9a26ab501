package sheets_test

import (
	"math"
	"math/rand/v2"
	"reflect"
	"slices"

	"assize/api"
)

// The limit is written as the document writes it.
const lastDay = 1 << 20

// in and cup are games of a league and of a cup.
var (
	in  = api.Game{Season: 4, Comp: 2, Home: 5, Away: 7}
	cup = api.Game{Season: 4, Comp: 9, Home: 5, Away: 7}
)

// games has games in order: each neighbour of in and cup differs from them in one number, or has the clubs turned.
func games() []api.Game {
	return []api.Game{
		{Season: 0, Comp: 0, Home: 0, Away: 1}, {Season: 3, Comp: 2, Home: 5, Away: 7}, {Season: 4, Comp: 1, Home: 5, Away: 7},
		{Season: 4, Comp: 2, Home: 4, Away: 7}, {Season: 4, Comp: 2, Home: 5, Away: 6}, in, {Season: 4, Comp: 2, Home: 5, Away: 10},
		{Season: 4, Comp: 2, Home: 7, Away: 5}, {Season: 4, Comp: 2, Home: 10, Away: 5}, cup, {Season: 4, Comp: 10, Home: 5, Away: 7},
		{Season: 5, Comp: 2, Home: 5, Away: 7}, {Season: 10, Comp: 2, Home: 5, Away: 7}, {Season: 63, Comp: 15, Home: 191, Away: 190},
	}
}

// impossible has games that no fact can have.
func impossible() []api.Game {
	return []api.Game{
		{}, {Home: 5, Away: 5}, {Season: -1, Home: 5, Away: 7}, {Season: 64, Home: 5, Away: 7}, {Comp: -1, Home: 5, Away: 7},
		{Comp: 16, Home: 5, Away: 7}, {Home: -1, Away: 7}, {Home: 192, Away: 7}, {Home: 5, Away: -1}, {Home: 5, Away: 192},
		{Season: math.MinInt, Comp: math.MaxInt, Home: math.MinInt, Away: math.MaxInt},
	}
}

// report is a fact that is a sheet of a referee.
func report(day, known, referee int, s api.Sheet) api.Fact {
	s.Referee = referee
	return api.Fact{Kind: api.SheetF, Day: day, Known: known, Sheet: s}
}

// about has the sheet about another game. The sheet has no penalties if the game is one of a league.
func about(g api.Game, s api.Sheet) api.Sheet {
	s.Game = g
	if g.Comp < 8 {
		s.HomePens, s.AwayPens = 0, 0
	}
	return s
}

// full is a sheet on which nothing is empty.
func full() api.Sheet {
	return api.Sheet{
		Game: cup, HomeGoals: 2, AwayGoals: 1, HomePens: 4, AwayPens: 3,
		HomeSquad: []int{10, 11, 15}, AwaySquad: []int{3, 12, 200},
		HomeCards: []api.Card{{Player: 15}, {Player: 10, Red: true}}, AwayCards: []api.Card{{Player: 12}, {Player: 3, Red: true}},
	}
}

// variant is a sheet that differs from the full one in a field.
type variant struct {
	field string
	s     api.Sheet
}

func variantsOf(field string, sets ...func(s *api.Sheet)) (l []variant) {
	for _, set := range sets {
		s := deep(api.Fact{Sheet: full()}).Sheet
		set(&s)
		l = append(l, variant{field, s})
	}
	return l
}

// variants has sheets that could be of the same game as the full one, and that differ from it, and from each other, in
// what they say. The facts with them are valid.
func variants() []variant {
	cards := func(l ...api.Card) []api.Card { return l }
	return slices.Concat(
		variantsOf("HomeGoals", func(s *api.Sheet) { s.HomeGoals = 1 }, func(s *api.Sheet) { s.HomeGoals = 10 }),
		variantsOf("AwayGoals", func(s *api.Sheet) { s.AwayGoals = 2 }, func(s *api.Sheet) { s.AwayGoals = 99 }),
		variantsOf("HomePens", func(s *api.Sheet) { s.HomePens = 5 }, func(s *api.Sheet) { s.HomePens = 0 }),
		variantsOf("AwayPens", func(s *api.Sheet) { s.AwayPens = 5 }, func(s *api.Sheet) { s.AwayPens = 0 }),
		variantsOf("HomeSquad",
			func(s *api.Sheet) { s.HomeSquad = []int{10, 15} }, func(s *api.Sheet) { s.HomeSquad = []int{10, 11, 15, 16} },
			func(s *api.Sheet) { s.HomeSquad = []int{10, 13, 15} }, func(s *api.Sheet) { s.HomeSquad = []int{9, 10, 11, 15} }),
		variantsOf("AwaySquad",
			func(s *api.Sheet) { s.AwaySquad = []int{3, 12} }, func(s *api.Sheet) { s.AwaySquad = []int{3, 12, 200, 201} },
			func(s *api.Sheet) { s.AwaySquad = []int{3, 12, 199} }, func(s *api.Sheet) { s.AwaySquad = []int{0, 3, 12, 200} }),
		variantsOf("HomeCards",
			func(s *api.Sheet) { s.HomeCards = nil }, func(s *api.Sheet) { s.HomeCards = cards(full().HomeCards[0]) },
			func(s *api.Sheet) { s.HomeCards = cards(full().HomeCards[1], full().HomeCards[0]) },
			func(s *api.Sheet) { s.HomeCards[1].Red = false }, func(s *api.Sheet) { s.HomeCards[0].Player = 11 },
			func(s *api.Sheet) { s.HomeCards = append(s.HomeCards, s.HomeCards[0]) }),
		variantsOf("AwayCards",
			func(s *api.Sheet) { s.AwayCards = nil }, func(s *api.Sheet) { s.AwayCards = cards(full().AwayCards[0]) },
			func(s *api.Sheet) { s.AwayCards = cards(full().AwayCards[1], full().AwayCards[0]) },
			func(s *api.Sheet) { s.AwayCards[0].Red = true }, func(s *api.Sheet) { s.AwayCards[0].Player = 200 },
			func(s *api.Sheet) { s.AwayCards = append(s.AwayCards, s.AwayCards[1]) }),
	)
}

// strange has further sheets that differ, which no valid fact can have, or which are about another game.
func strange() (l []variant) {
	for _, g := range append(impossible(), games()...) {
		if g != cup {
			l = append(l, variantsOf("Game", func(s *api.Sheet) { s.Game = g })...)
		}
	}
	return slices.Concat(l,
		variantsOf("HomeGoals", func(s *api.Sheet) { s.HomeGoals = -1 }, func(s *api.Sheet) { s.HomeGoals = math.MaxInt }),
		variantsOf("AwayGoals", func(s *api.Sheet) { s.AwayGoals = 100 }, func(s *api.Sheet) { s.AwayGoals = math.MinInt }),
		variantsOf("HomePens", func(s *api.Sheet) { s.HomePens = 3 }, func(s *api.Sheet) { s.HomePens = 100 }),
		variantsOf("AwayPens", func(s *api.Sheet) { s.AwayPens = 4 }, func(s *api.Sheet) { s.AwayPens = -1 }),
		variantsOf("HomeSquad",
			func(s *api.Sheet) { slices.Reverse(s.HomeSquad) }, func(s *api.Sheet) { s.HomeSquad = []int{10, 10, 11, 15} },
			func(s *api.Sheet) { s.HomeSquad = nil }, func(s *api.Sheet) { s.HomeSquad[0] = -1 }),
		variantsOf("AwaySquad",
			func(s *api.Sheet) { slices.Reverse(s.AwaySquad) }, func(s *api.Sheet) { s.AwaySquad = []int{3, 12, 200, 200} },
			func(s *api.Sheet) { s.AwaySquad = nil }, func(s *api.Sheet) { s.AwaySquad[2] = 8192 }),
		variantsOf("HomeCards", func(s *api.Sheet) { s.HomeCards[0].Player = 3 }, func(s *api.Sheet) { s.HomeCards[0].Player = -1 }),
		variantsOf("AwayCards", func(s *api.Sheet) { s.AwayCards[0].Player = 10 }, func(s *api.Sheet) { s.AwayCards[0].Player = 8192 }),
	)
}

// damages has ways to make a valid fact with a sheet one that is not valid. Some of these would be the last in canonical
// order.
func damages() []func(f *api.Fact) {
	return []func(f *api.Fact){
		func(f *api.Fact) { f.Known = lastDay + 1 }, func(f *api.Fact) { f.Known = -1 },
		func(f *api.Fact) { f.Day = lastDay + 1 }, func(f *api.Fact) { f.Day = -1 },
		func(f *api.Fact) { f.Kind = 0 }, func(f *api.Fact) { f.Kind = 9 }, func(f *api.Fact) { f.Kind = api.MoveF },
		func(f *api.Fact) { f.Kind = api.VoidF }, func(f *api.Fact) { f.Move.To = 1 }, func(f *api.Fact) { f.Fixture.Game = f.Sheet.Game },
		func(f *api.Fact) { f.Void[31] = 1 }, func(f *api.Fact) { f.Lot.Order = []int{1, 2} },
		func(f *api.Fact) { f.Sheet.HomeGoals = 100 }, func(f *api.Fact) { f.Sheet.AwayGoals = -1 },
		func(f *api.Fact) { f.Sheet.HomePens, f.Sheet.AwayPens = 100, 0 }, func(f *api.Fact) { f.Sheet.HomePens, f.Sheet.AwayPens = 1, 1 },
		func(f *api.Fact) { f.Sheet.HomeSquad = []int{11, 10, 15} }, func(f *api.Fact) { f.Sheet.AwaySquad = []int{3, 10, 12} },
		func(f *api.Fact) { f.Sheet.AwaySquad = []int{3, 12, 8192} }, func(f *api.Fact) { f.Sheet.HomeSquad = make([]int, 41) },
		func(f *api.Fact) { f.Sheet.HomeCards = []api.Card{{Player: 3}} }, func(f *api.Fact) { f.Sheet.AwayCards = make([]api.Card, 41) },
	}
}

// damaged has facts that are not valid, and say something else than a valid fact with a sheet.
func damaged(f api.Fact) (l []api.Fact) {
	for _, damage := range damages() {
		g := deep(f)
		g.Sheet.HomeGoals = (f.Sheet.HomeGoals + 3) % 100
		damage(&g)
		l = append(l, g)
	}
	return l
}

// others has facts of the other kinds about a game, its clubs and its players.
func others(g api.Game) []api.Fact {
	dated := func(kind int) api.Fact { return api.Fact{Kind: kind, Day: 6, Known: 9} }
	entrants, fixture, ruling, appeal := dated(api.EntrantsF), dated(api.FixtureF), dated(api.RulingF), dated(api.AppealF)
	move, lot, void := dated(api.MoveF), dated(api.LotF), dated(api.VoidF)
	entrants.Entrants = api.Entrants{Season: g.Season, Comp: 8, Clubs: []int{min(g.Home, g.Away), max(g.Home, g.Away)}}
	fixture.Fixture = api.Fixture{Game: g, Venue: 3}
	ruling.Ruling = api.Ruling{Case: 7, Instance: 1, Kind: api.ScoreR, Game: g, HomeGoals: 5}
	appeal.Appeal = api.Appeal{Case: 7, Instance: 1, Suspends: true}
	move.Move = api.Move{Player: 11, To: g.Away}
	lot.Lot = api.Lot{Season: g.Season, Comp: g.Comp, Order: []int{g.Away, g.Home}}
	void.Void = api.Digest{1, 2, 3}
	return []api.Fact{entrants, fixture, ruling, appeal, move, lot, void}
}

// drawnSheet has a fact with a sheet that is likely to have the same game, or to say the same, as others that are drawn.
func drawnSheet(r *rand.Rand) api.Fact {
	all := games()
	days := []int{0, 3, 4, 9, lastDay}
	s := full()
	if i := r.IntN(5); i > 1 {
		s = variants()[i].s
	}
	return report(days[r.IntN(5)], days[r.IntN(5)], r.IntN(2), about(all[r.IntN(len(all))], s))
}

// drawn has so many facts, most of them with sheets, and some of other kinds, not valid, or given before.
func drawn(r *rand.Rand, many int) (l []api.Fact) {
	for range many {
		f := drawnSheet(r)
		switch r.IntN(12) {
		case 0, 1:
			l = append(l, damaged(f)[r.IntN(len(damages()))])
		case 2:
			l = append(l, others(f.Sheet.Game)[r.IntN(7)])
		case 3:
			if len(l) > 0 {
				f = deep(l[r.IntN(len(l))])
			}
			l = append(l, f)
		default:
			l = append(l, f)
		}
	}
	return l
}

func shuffled(r *rand.Rand, l []api.Fact) []api.Fact {
	l = slices.Clone(l)
	r.Shuffle(len(l), func(i, k int) { l[i], l[k] = l[k], l[i] })
	return l
}

// with has a list with further elements from an index on.
func with(l []api.Fact, at int, more ...api.Fact) []api.Fact {
	return slices.Concat(l[:at], more, l[at:])
}

// deep shares no memory with a fact, and has empty slices instead of nil.
func deep(f api.Fact) api.Fact {
	f.Entrants.Clubs = append([]int{}, f.Entrants.Clubs...)
	f.Sheet.HomeSquad = append([]int{}, f.Sheet.HomeSquad...)
	f.Sheet.AwaySquad = append([]int{}, f.Sheet.AwaySquad...)
	f.Sheet.HomeCards = append([]api.Card{}, f.Sheet.HomeCards...)
	f.Sheet.AwayCards = append([]api.Card{}, f.Sheet.AwayCards...)
	f.Lot.Order = append([]int{}, f.Lot.Order...)
	return f
}

func deepAll(l []api.Fact) []api.Fact {
	c := make([]api.Fact, 0, len(l))
	for _, f := range l {
		c = append(c, deep(f))
	}
	return c
}

// guarded has a list with a space for further elements behind it, in which there are sheets, and a function that reports
// whether all of this is as it was.
func guarded(l []api.Fact) (spacious []api.Fact, intact func() bool) {
	all := deepAll(with(l, len(l), report(lastDay, lastDay, 0, full()), report(lastDay, lastDay, 1, about(in, full()))))
	before := deepAll(all)
	return all[:len(l)], func() bool { return reflect.DeepEqual(all, before) }
}

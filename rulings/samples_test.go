package rulings_test

import (
	"math"
	"math/rand/v2"
	"reflect"
	"slices"

	"assize/api"
	"assize/facts"
)

// The limits are written as the document writes them.
const (
	lastDay   = 1 << 20
	lastCase  = 1 << 20
	mostFacts = 65536
)

var in = api.Game{Season: 4, Comp: 2, Home: 5, Away: 7}

// games has games that differ from in, and among each other, in one number or more, or have the clubs turned.
func games() []api.Game {
	return []api.Game{
		in, {Season: 5, Comp: 2, Home: 5, Away: 7}, {Season: 4, Comp: 9, Home: 5, Away: 7}, {Season: 4, Comp: 2, Home: 4, Away: 7},
		{Season: 4, Comp: 2, Home: 5, Away: 10}, {Season: 4, Comp: 2, Home: 7, Away: 5}, {Home: 0, Away: 1},
		{Season: 63, Comp: 15, Home: 191, Away: 190},
	}
}

// impossible has games that no fact can have; the first one is that of the rulings that are about no game.
func impossible() []api.Game {
	return []api.Game{
		{}, {Home: 5, Away: 5}, {Season: -1, Home: 5, Away: 7}, {Season: 64, Home: 5, Away: 7}, {Comp: -1, Home: 5, Away: 7},
		{Comp: 16, Home: 5, Away: 7}, {Home: -1, Away: 7}, {Home: 192, Away: 7}, {Home: 5, Away: -1}, {Home: 5, Away: 192},
		{Season: math.MinInt, Comp: math.MaxInt, Home: math.MinInt, Away: math.MaxInt},
	}
}

// ruled has the fact that an instance ruled in a case.
func ruled(day, known, number, instance int, r api.Ruling) api.Fact {
	r.Case, r.Instance = number, instance
	return api.Fact{Kind: api.RulingF, Day: day, Known: known, Ruling: r}
}

// appealed has the fact that there is an appeal against an instance in a case.
func appealed(day, known, number, instance int, suspends bool) api.Fact {
	a := api.Appeal{Case: number, Instance: instance, Suspends: suspends}
	return api.Fact{Kind: api.AppealF, Day: day, Known: known, Appeal: a}
}

func forfeit(g api.Game, club int) api.Ruling {
	return api.Ruling{Kind: api.ForfeitR, Game: g, Club: club}
}

func annul(g api.Game) api.Ruling { return api.Ruling{Kind: api.AnnulR, Game: g} }

func score(g api.Game, home, away int) api.Ruling {
	return api.Ruling{Kind: api.ScoreR, Game: g, HomeGoals: home, AwayGoals: away}
}

func points(season, comp, club, n int) api.Ruling {
	return api.Ruling{Kind: api.PointsR, Season: season, Comp: comp, Club: club, Points: n}
}

func ban(club, from, to int) api.Ruling {
	return api.Ruling{Kind: api.BanR, Club: club, Days: api.Interval{From: from, To: to}}
}

func unfit(player, from, to int) api.Ruling {
	return api.Ruling{Kind: api.UnfitR, Player: player, Days: api.Interval{From: from, To: to}}
}

func fine(club, amount int) api.Ruling {
	return api.Ruling{Kind: api.FineR, Club: club, Amount: amount}
}

func nothing() api.Ruling { return api.Ruling{Kind: api.NothingR} }

// kinds has rulings of all kinds, in the order of the kinds.
func kinds() []api.Ruling {
	return []api.Ruling{
		forfeit(in, 5), annul(in), score(in, 3, 2), points(4, 2, 5, 3), ban(5, 3, 5), unfit(11, 3, 5), fine(5, 1234567), nothing(),
	}
}

// pool has rulings of all kinds about several games, competitions, clubs and players, some of them about the same.
func pool() (l []api.Ruling) {
	for _, g := range games() {
		l = append(l, forfeit(g, g.Home), forfeit(g, g.Away), annul(g), score(g, 0, 0), score(g, 2, 10))
		l = append(l, points(g.Season, g.Comp, g.Home, 1), points(g.Season, g.Comp, g.Away, 10), points(g.Season, g.Comp, g.Away, 99))
	}
	for _, club := range []int{0, 5, 7, 191} {
		l = append(l, ban(club, 3, 5), ban(club, 6, 9), ban(club, 8, 20), ban(club, 22, 22), ban(club, 0, 0), ban(club, lastDay, lastDay), fine(club, 1))
	}
	return append(l, unfit(0, 0, lastDay), unfit(11, 3, 5), unfit(8191, 9, 10), nothing(), nothing())
}

// others has facts of the six other kinds, about the games and the clubs of the rulings; some of the VoidFs name facts.
func others(named ...api.Fact) []api.Fact {
	l := []api.Fact{
		{Kind: api.EntrantsF, Entrants: api.Entrants{Season: 4, Comp: 2, Clubs: []int{5, 7}, Rules: "a"}},
		{Kind: api.FixtureF, Fixture: api.Fixture{Game: in, Venue: 3}},
		{Kind: api.SheetF, Sheet: api.Sheet{Game: in, HomeGoals: 2, HomeSquad: []int{10, 11}, HomeCards: []api.Card{{Player: 11, Red: true}}}},
		{Kind: api.MoveF, Move: api.Move{Player: 11, To: 5}},
		{Kind: api.LotF, Lot: api.Lot{Season: 4, Comp: 2, Order: []int{7, 5}}},
		{Kind: api.VoidF, Void: api.Digest{1, 2, 3}},
	}
	for _, f := range named {
		if id, e := facts.ID(f); e == api.OK {
			l = append(l, api.Fact{Kind: api.VoidF, Void: id})
		}
	}
	for i := range l {
		l[i].Day, l[i].Known = 7, 9
	}
	return l
}

func instanceOf(f *api.Fact) *int {
	if f.Kind == api.AppealF {
		return &f.Appeal.Instance
	}
	return &f.Ruling.Instance
}

func caseOf(f *api.Fact) *int {
	if f.Kind == api.AppealF {
		return &f.Appeal.Case
	}
	return &f.Ruling.Case
}

// damages has ways to make a valid fact with a ruling or an appeal one that is not valid. Some of these would be the first
// or the last one in canonical order, or belong to no instance or to a higher one.
func damages() []func(f *api.Fact) {
	l := []func(f *api.Fact){
		func(f *api.Fact) { f.Known = -1 }, func(f *api.Fact) { f.Known = lastDay + 1 },
		func(f *api.Fact) { f.Day = -1 }, func(f *api.Fact) { f.Day = lastDay + 1 },
		func(f *api.Fact) { f.Kind = 0 }, func(f *api.Fact) { f.Kind = 9 }, func(f *api.Fact) { f.Kind = api.VoidF },
		func(f *api.Fact) { f.Kind = api.MoveF }, func(f *api.Fact) { f.Kind = api.RulingF + api.AppealF - f.Kind },
		func(f *api.Fact) { f.Void[31] = 1 }, func(f *api.Fact) { f.Move.To = 1 }, func(f *api.Fact) { f.Fixture.Game = in },
		func(f *api.Fact) { f.Lot.Order = []int{1, 2} }, func(f *api.Fact) { f.Sheet.HomeGoals = 1 },
		func(f *api.Fact) { f.Ruling.Case, f.Appeal.Case = 7, 7 }, func(f *api.Fact) { f.Ruling.Instance, f.Appeal.Instance = 1, 1 },
		func(f *api.Fact) { f.Ruling.Kind = 0; f.Appeal.Instance = 3 }, func(f *api.Fact) { f.Ruling.Kind = 9; f.Appeal.Case = -1 },
		func(f *api.Fact) { f.Ruling.Player = 8192 }, func(f *api.Fact) { f.Ruling.Club = 192 }, func(f *api.Fact) { f.Ruling.Club = -1 },
		func(f *api.Fact) { f.Ruling.Points = 100 }, func(f *api.Fact) { f.Ruling.Amount = -1 }, func(f *api.Fact) { f.Ruling.HomeGoals = 100 },
		func(f *api.Fact) { f.Ruling.AwayGoals = -1 }, func(f *api.Fact) { f.Ruling.Season = 64 }, func(f *api.Fact) { f.Ruling.Comp = 16 },
		func(f *api.Fact) { f.Ruling.Days = api.Interval{From: 9, To: 8} }, func(f *api.Fact) { f.Ruling.Days.To = lastDay + 1 },
		func(f *api.Fact) { f.Ruling.Game = api.Game{Home: 5, Away: 5} }, func(f *api.Fact) { f.Ruling.Game.Away = 192 },
	}
	for _, n := range []int{math.MinInt, -1, 0, 4, 5, math.MaxInt} {
		l = append(l, func(f *api.Fact) { *instanceOf(f) = n })
	}
	for _, n := range []int{math.MinInt, -1, 0, lastCase + 1, math.MaxInt} {
		l = append(l, func(f *api.Fact) { *caseOf(f) = n })
	}
	return l
}

// damaged has facts that are made of a valid one, and are not valid.
func damaged(f api.Fact) (l []api.Fact) {
	for _, damage := range damages() {
		g := deep(f)
		damage(&g)
		l = append(l, g)
	}
	return l
}

func pick[E any](r *rand.Rand, l []E) E { return l[r.IntN(len(l))] }

// cases has the numbers of the cases that are drawn. As texts their order is another one.
func cases() []int { return []int{1, 2, 7, 10, lastCase} }

// drawnFact has a fact with a ruling or an appeal that is likely to belong to a case with others that are drawn.
func drawnFact(r *rand.Rand) api.Fact {
	days := []int{0, 3, 9, 10, lastDay}
	if r.IntN(5) == 0 {
		return appealed(pick(r, days), pick(r, days), pick(r, cases()), 1+r.IntN(2), r.IntN(3) > 0)
	}
	return ruled(pick(r, days), pick(r, days), pick(r, cases()), 1+r.IntN(3), pick(r, pool()))
}

// drawn has so many facts, most of them with rulings and appeals, and some of other kinds, not valid, or given before.
func drawn(r *rand.Rand, many int) (l []api.Fact) {
	for range many {
		f := drawnFact(r)
		switch r.IntN(10) {
		case 0:
			l = append(l, pick(r, damaged(f)))
		case 1:
			l = append(l, pick(r, others(f)))
		case 2:
			if len(l) > 0 {
				f = deep(pick(r, l))
			}
			l = append(l, f)
		default:
			l = append(l, f)
		}
	}
	return l
}

func shuffled(r *rand.Rand, l []api.Fact) []api.Fact {
	l = slices.Clone(l)
	r.Shuffle(len(l), func(i, k int) { l[i], l[k] = l[k], l[i] })
	return l
}

// with has a list with further elements from an index on.
func with(l []api.Fact, at int, more ...api.Fact) []api.Fact {
	return slices.Concat(l[:at], more, l[at:])
}

// deep shares no memory with a fact, and has empty slices instead of nil.
func deep(f api.Fact) api.Fact {
	f.Entrants.Clubs = append([]int{}, f.Entrants.Clubs...)
	f.Sheet.HomeSquad = append([]int{}, f.Sheet.HomeSquad...)
	f.Sheet.AwaySquad = append([]int{}, f.Sheet.AwaySquad...)
	f.Sheet.HomeCards = append([]api.Card{}, f.Sheet.HomeCards...)
	f.Sheet.AwayCards = append([]api.Card{}, f.Sheet.AwayCards...)
	f.Lot.Order = append([]int{}, f.Lot.Order...)
	return f
}

func deepAll(l []api.Fact) []api.Fact {
	c := make([]api.Fact, 0, len(l))
	for _, f := range l {
		c = append(c, deep(f))
	}
	return c
}

// guarded has a list with a space for further elements behind it, in which there are rulings, and a function that reports
// whether all of this is as it was.
func guarded(l []api.Fact) (spacious []api.Fact, intact func() bool) {
	all := deepAll(with(l, len(l), ruled(0, 0, 7, 3, nothing()), ruled(0, 0, 1, 1, annul(in))))
	before := deepAll(all)
	return all[:len(l)], func() bool { return reflect.DeepEqual(all, before) }
}

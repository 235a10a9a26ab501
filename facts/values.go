package facts

import (
	"iter"

	"assize/api"
)

// valueOf returns the value whose encoding is that of a valid fact.
func valueOf(f api.Fact) api.Value {
	what := api.Value{Kind: api.ListV}
	for x := range elements(f) {
		what.L = append(what.L, x)
	}
	return api.Value{
		Kind: api.DictV,
		Keys: []string{"day", "kind", "known", "what"},
		L:    []api.Value{number(f.Day), number(f.Kind), number(f.Known), what},
	}
}

// elements yields the elements of the list `what` of a valid fact.
func elements(f api.Fact) iter.Seq[api.Value] {
	return func(yield func(x api.Value) bool) {
		switch f.Kind {
		case api.EntrantsF:
			yieldEntrants(f.Entrants, yield)
		case api.FixtureF:
			yieldFixture(f.Fixture, yield)
		case api.SheetF:
			yieldSheet(f.Sheet, yield)
		case api.RulingF:
			yieldRuling(f.Ruling, yield)
		case api.AppealF:
			yieldAppeal(f.Appeal, yield)
		case api.MoveF:
			yieldNumbers(yield, f.Move.Player, f.Move.To)
		case api.LotF:
			yieldLot(f.Lot, yield)
		case api.VoidF:
			yield(text(string(f.Void[:])))
		}
	}
}

// The functions below report whether the elements that they yield are all taken, so that nothing is yielded once one
// of them is not.

func yieldEntrants(x api.Entrants, yield func(x api.Value) bool) bool {
	return yieldNumbers(yield, x.Season, x.Comp) && yield(numbers(x.Clubs...)) && yield(text(x.Rules))
}

func yieldFixture(x api.Fixture, yield func(x api.Value) bool) bool {
	return yield(game(x.Game)) && yield(number(x.Venue))
}

func yieldSheet(s api.Sheet, yield func(x api.Value) bool) bool {
	return yield(game(s.Game)) &&
		yieldNumbers(yield, s.Referee, s.HomeGoals, s.AwayGoals, s.HomePens, s.AwayPens) &&
		yield(numbers(s.HomeSquad...)) && yield(numbers(s.AwaySquad...)) &&
		yield(cards(s.HomeCards)) && yield(cards(s.AwayCards))
}

func yieldRuling(r api.Ruling, yield func(x api.Value) bool) bool {
	return yieldNumbers(yield, r.Case, r.Instance, r.Kind) && yield(game(r.Game)) &&
		yieldNumbers(yield, r.Club, r.Player, r.Season, r.Comp, r.Points, r.Amount) &&
		yieldNumbers(yield, r.HomeGoals, r.AwayGoals, r.Days.From, r.Days.To)
}

func yieldAppeal(a api.Appeal, yield func(x api.Value) bool) bool {
	return yieldNumbers(yield, a.Case, a.Instance) && yield(truth(a.Suspends))
}

func yieldLot(x api.Lot, yield func(x api.Value) bool) bool {
	return yieldNumbers(yield, x.Season, x.Comp) && yield(numbers(x.Order...))
}

func yieldNumbers(yield func(x api.Value) bool, l ...int) bool {
	for _, n := range l {
		if !yield(number(n)) {
			return false
		}
	}
	return true
}

func number(n int) api.Value { return api.Value{Kind: api.IntV, N: n} }

func numbers(l ...int) api.Value {
	v := api.Value{Kind: api.ListV, L: make([]api.Value, 0, len(l))}
	for _, n := range l {
		v.L = append(v.L, number(n))
	}
	return v
}

func text(s string) api.Value { return api.Value{Kind: api.TextV, S: s} }

func truth(b bool) api.Value {
	if b {
		return number(1)
	}
	return number(0)
}

func game(g api.Game) api.Value { return numbers(g.Season, g.Comp, g.Home, g.Away) }

func cards(l []api.Card) api.Value {
	v := api.Value{Kind: api.ListV, L: make([]api.Value, 0, len(l))}
	for _, c := range l {
		v.L = append(v.L, api.Value{Kind: api.ListV, L: []api.Value{number(c.Player), truth(c.Red)}})
	}
	return v
}

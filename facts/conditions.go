package facts

import (
	"slices"

	"assize/api"
)

// condition says what is required of a fact, or of a ruling, because of its kind.
type condition[T any] struct {
	holds func(x T) bool // whether the fields that the kind uses fulfil the conditions
	own   func(x T) T    // nothing but these fields
}

// conditions returns the conditions of the kinds of facts.
func conditions() map[int]condition[api.Fact] {
	return map[int]condition[api.Fact]{
		api.EntrantsF: {
			holds: func(f api.Fact) bool { return areEntrants(f.Entrants) },
			own:   func(f api.Fact) api.Fact { return api.Fact{Entrants: f.Entrants} },
		},
		api.FixtureF: {
			holds: func(f api.Fact) bool { return isGame(f.Fixture.Game) && within(f.Fixture.Venue, 0, maxVenue) },
			own:   func(f api.Fact) api.Fact { return api.Fact{Fixture: f.Fixture} },
		},
		api.SheetF: {
			holds: func(f api.Fact) bool { return isSheet(f.Sheet) },
			own:   func(f api.Fact) api.Fact { return api.Fact{Sheet: f.Sheet} },
		},
		api.RulingF: {
			holds: func(f api.Fact) bool { return isRuling(f.Ruling) },
			own:   func(f api.Fact) api.Fact { return api.Fact{Ruling: f.Ruling} },
		},
		api.AppealF: {
			holds: func(f api.Fact) bool { return isAppeal(f.Appeal) },
			own:   func(f api.Fact) api.Fact { return api.Fact{Appeal: f.Appeal} },
		},
		api.MoveF: {
			holds: func(f api.Fact) bool { return isMove(f.Move) },
			own:   func(f api.Fact) api.Fact { return api.Fact{Move: f.Move} },
		},
		api.LotF: {
			holds: func(f api.Fact) bool { return isLot(f.Lot) },
			own:   func(f api.Fact) api.Fact { return api.Fact{Lot: f.Lot} },
		},
		api.VoidF: {
			holds: func(f api.Fact) bool { return true },
			own:   func(f api.Fact) api.Fact { return api.Fact{Void: f.Void} },
		},
	}
}

func isFact(f api.Fact) bool {
	c, ok := conditions()[f.Kind]
	if !ok || !isDay(f.Day) || !isDay(f.Known) || !c.holds(f) {
		return false
	}
	own := c.own(f)
	own.Kind, own.Day, own.Known = f.Kind, f.Day, f.Known
	return Same(f, own)
}

func areEntrants(x api.Entrants) bool {
	if !isSeason(x.Season) || !isComp(x.Comp) || !areClubs(x.Clubs) || !isIncreasing(x.Clubs) {
		return false
	}
	if isLeague(x.Comp) {
		return isName(x.Rules)
	}
	return x.Rules == ""
}

// areClubs reports whether a list has as many clubs as a competition, all of them in range.
func areClubs(l []int) bool {
	return within(len(l), minClubs, api.MaxField) && every(l, isClub)
}

func isSheet(s api.Sheet) bool {
	return isGame(s.Game) && within(s.Referee, 0, 1) && areGoals(s.HomeGoals, s.AwayGoals) && arePenalties(s) &&
		isSquad(s.HomeSquad) && isSquad(s.AwaySquad) && !haveCommon(s.HomeSquad, s.AwaySquad) &&
		areCards(s.HomeCards, s.HomeSquad) && areCards(s.AwayCards, s.AwaySquad)
}

// arePenalties reports whether there were no penalties, or such as decide a cup tie.
func arePenalties(s api.Sheet) bool {
	if s.HomePens == 0 && s.AwayPens == 0 {
		return true
	}
	return !isLeague(s.Game.Comp) && areGoals(s.HomePens, s.AwayPens) && s.HomePens != s.AwayPens
}

func isSquad(l []int) bool {
	return len(l) <= api.MaxSquad && every(l, isPlayer) && isIncreasing(l)
}

// haveCommon reports whether two squads have a player in common.
func haveCommon(a, b []int) bool {
	return slices.ContainsFunc(a, func(player int) bool { return isIn(b, player) })
}

// isIn reports whether a player belongs to a squad, which is increasing.
func isIn(squad []int, player int) bool {
	_, found := slices.BinarySearch(squad, player)
	return found
}

func areCards(l []api.Card, squad []int) bool {
	return len(l) <= api.MaxCards && every(l, func(c api.Card) bool { return isIn(squad, c.Player) })
}

func isAppeal(a api.Appeal) bool {
	// Against the last instance there is no appeal.
	return isCase(a.Case) && within(a.Instance, 1, api.MaxInstance-1)
}

func isMove(m api.Move) bool { return isPlayer(m.Player) && (isClub(m.To) || m.To == -1) }

func isLot(x api.Lot) bool {
	return isSeason(x.Season) && isComp(x.Comp) && areClubs(x.Order) && isIncreasing(slices.Sorted(slices.Values(x.Order)))
}

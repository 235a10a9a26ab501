package facts

import (
	"slices"

	"assize/api"
)

// Same reports whether two facts are equal.
func Same(a, b api.Fact) (same bool) {
	return a.Kind == b.Kind && a.Day == b.Day && a.Known == b.Known &&
		sameEntrants(a.Entrants, b.Entrants) && a.Fixture == b.Fixture && sameSheets(a.Sheet, b.Sheet) &&
		a.Ruling == b.Ruling && a.Appeal == b.Appeal && a.Move == b.Move && sameLots(a.Lot, b.Lot) && a.Void == b.Void
}

func sameEntrants(a, b api.Entrants) bool {
	return a.Season == b.Season && a.Comp == b.Comp && a.Rules == b.Rules && slices.Equal(a.Clubs, b.Clubs)
}

func sameSheets(a, b api.Sheet) bool {
	return a.Game == b.Game && a.Referee == b.Referee && a.HomeGoals == b.HomeGoals && a.AwayGoals == b.AwayGoals &&
		a.HomePens == b.HomePens && a.AwayPens == b.AwayPens &&
		slices.Equal(a.HomeSquad, b.HomeSquad) && slices.Equal(a.AwaySquad, b.AwaySquad) &&
		slices.Equal(a.HomeCards, b.HomeCards) && slices.Equal(a.AwayCards, b.AwayCards)
}

func sameLots(a, b api.Lot) bool {
	return a.Season == b.Season && a.Comp == b.Comp && slices.Equal(a.Order, b.Order)
}

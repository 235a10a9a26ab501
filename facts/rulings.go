package facts

import "assize/api"

// rulingConditions returns the conditions of the kinds of rulings.
func rulingConditions() map[int]condition[api.Ruling] {
	return map[int]condition[api.Ruling]{
		api.ForfeitR: {
			holds: func(r api.Ruling) bool { return isGame(r.Game) && (r.Club == r.Game.Home || r.Club == r.Game.Away) },
			own:   func(r api.Ruling) api.Ruling { return api.Ruling{Game: r.Game, Club: r.Club} },
		},
		api.AnnulR: {
			holds: func(r api.Ruling) bool { return isGame(r.Game) },
			own:   func(r api.Ruling) api.Ruling { return api.Ruling{Game: r.Game} },
		},
		api.ScoreR: {
			holds: func(r api.Ruling) bool { return isGame(r.Game) && areGoals(r.HomeGoals, r.AwayGoals) },
			own: func(r api.Ruling) api.Ruling {
				return api.Ruling{Game: r.Game, HomeGoals: r.HomeGoals, AwayGoals: r.AwayGoals}
			},
		},
		api.PointsR: {
			holds: func(r api.Ruling) bool {
				return isClub(r.Club) && isSeason(r.Season) && isComp(r.Comp) && within(r.Points, 1, maxPoints)
			},
			own: func(r api.Ruling) api.Ruling {
				return api.Ruling{Club: r.Club, Season: r.Season, Comp: r.Comp, Points: r.Points}
			},
		},
		api.BanR: {
			holds: func(r api.Ruling) bool { return isClub(r.Club) && isInterval(r.Days) },
			own:   func(r api.Ruling) api.Ruling { return api.Ruling{Club: r.Club, Days: r.Days} },
		},
		api.UnfitR: {
			holds: func(r api.Ruling) bool { return isPlayer(r.Player) && isInterval(r.Days) },
			own:   func(r api.Ruling) api.Ruling { return api.Ruling{Player: r.Player, Days: r.Days} },
		},
		api.FineR: {
			holds: func(r api.Ruling) bool { return isClub(r.Club) && within(r.Amount, 1, api.MaxAmount) },
			own:   func(r api.Ruling) api.Ruling { return api.Ruling{Club: r.Club, Amount: r.Amount} },
		},
		api.NothingR: {
			holds: func(r api.Ruling) bool { return true },
			own:   func(r api.Ruling) api.Ruling { return api.Ruling{} },
		},
	}
}

func isRuling(r api.Ruling) bool {
	c, ok := rulingConditions()[r.Kind]
	if !ok || !isCase(r.Case) || !within(r.Instance, 1, api.MaxInstance) || !c.holds(r) {
		return false
	}
	own := c.own(r)
	own.Case, own.Instance, own.Kind = r.Case, r.Instance, r.Kind
	return r == own
}

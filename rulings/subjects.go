package rulings

import "assize/api"

// subject is what a ruling may be about. Each of its methods reports whether a ruling is about it in a certain way.
type subject struct {
	game               api.Game
	season, comp, club int
}

// isAny reports true: every ruling is about something.
func (s subject) isAny(api.Ruling) bool { return true }

// isDecided reports whether the ruling says how the game ended, or that it did not.
func (s subject) isDecided(r api.Ruling) bool {
	switch r.Kind {
	case api.ForfeitR, api.AnnulR, api.ScoreR:
		return r.Game == s.game
	}
	return false
}

// losesPoints reports whether the ruling takes points from the club in the competition of the season.
func (s subject) losesPoints(r api.Ruling) bool {
	return r.Kind == api.PointsR && r.Season == s.season && r.Comp == s.comp && r.Club == s.club
}

// isBanned reports whether the ruling bans the club.
func (s subject) isBanned(r api.Ruling) bool { return r.Kind == api.BanR && r.Club == s.club }

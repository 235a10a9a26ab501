package facts

import "assize/api"

const (
	maxVenue  = 4095
	maxPoints = 99 // points that a ruling takes away
	minClubs  = 2  // clubs of a competition, and of its lots
)

func within(n, from, to int) bool { return from <= n && n <= to }

func isSeason(n int) bool { return within(n, 0, api.MaxSeasons-1) }

func isComp(n int) bool { return within(n, 0, api.MaxComps-1) }

// isLeague reports whether a competition in range is a league, and not a cup.
func isLeague(comp int) bool { return comp < api.MaxLeagues }

func isClub(n int) bool { return within(n, 0, api.MaxClubs-1) }

func isPlayer(n int) bool { return within(n, 0, api.MaxPlayers-1) }

func areGoals(home, away int) bool {
	return within(home, 0, api.MaxGoals) && within(away, 0, api.MaxGoals)
}

func isDay(n int) bool { return within(n, 0, api.MaxDay) }

func isCase(n int) bool { return within(n, 1, api.MaxCase) }

func isInterval(i api.Interval) bool { return isDay(i.From) && isDay(i.To) && i.From <= i.To }

func isGame(g api.Game) bool {
	return isSeason(g.Season) && isComp(g.Comp) && isClub(g.Home) && isClub(g.Away) && g.Home != g.Away
}

func isName(s string) bool {
	if !within(len(s), 1, api.MaxName) || !isLetter(s[0]) {
		return false
	}
	for i := 1; i < len(s); i++ {
		if !isLetter(s[i]) && !isDigit(s[i]) && s[i] != '_' {
			return false
		}
	}
	return true
}

func isLetter(c byte) bool { return 'a' <= c && c <= 'z' }

func isDigit(c byte) bool { return '0' <= c && c <= '9' }

// isIncreasing reports whether each number is less than the next one.
func isIncreasing(l []int) bool {
	for i := 1; i < len(l); i++ {
		if l[i-1] >= l[i] {
			return false
		}
	}
	return true
}

// every reports whether all elements of a list fulfil a condition.
func every[E any](l []E, fits func(x E) bool) bool {
	for _, x := range l {
		if !fits(x) {
			return false
		}
	}
	return true
}

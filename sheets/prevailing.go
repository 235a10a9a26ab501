package sheets

import (
	"iter"

	"assize/api"
	"assize/facts"
)

// sheetsOf yields the facts that are sheets of the wanted games.
func sheetsOf(l []api.Fact, wanted func(g api.Game) bool) iter.Seq[*api.Fact] {
	return func(yield func(f *api.Fact) bool) {
		for i := range l {
			f := &l[i]
			// Check takes longer than the rest, and most facts of a long list are about something else.
			if f.Kind != api.SheetF || !wanted(f.Sheet.Game) || facts.Check(*f) != api.OK {
				continue
			}
			if !yield(f) {
				return
			}
		}
	}
}

// pair has, for each referee, the fact whose sheet of a game prevails, or nil if there is none.
type pair [2]*api.Fact

// with returns the pair of those that prevail when there is a further sheet of the game.
func (p pair) with(f *api.Fact) pair {
	referee := f.Sheet.Referee
	if p[referee] == nil || facts.Compare(*p[referee], *f) < 0 {
		p[referee] = f
	}
	return p
}

// score returns what the sheets that prevail say together.
func (p pair) score() api.Score {
	first, second := p[0], p[1]
	switch {
	case first == nil && second == nil:
		return api.Score{Kind: api.NoneS}
	case second == nil:
		return api.Score{Kind: api.OneS, Sheet: first.Sheet, Day: first.Day}
	case first == nil:
		return api.Score{Kind: api.OneS, Sheet: second.Sheet, Day: second.Day}
	}
	day := max(first.Day, second.Day)
	if !Same(first.Sheet, second.Sheet) {
		return api.Score{Kind: api.DisputeS, Day: day}
	}
	return api.Score{Kind: api.AgreedS, Sheet: first.Sheet, Day: day}
}

// prevailing returns, for each of the wanted games of which there is a sheet, those that prevail.
func prevailing(l []api.Fact, wanted func(g api.Game) bool) map[api.Game]pair {
	pairs := map[api.Game]pair{}
	for f := range sheetsOf(l, wanted) {
		g := f.Sheet.Game
		pairs[g] = pairs[g].with(f)
	}
	return pairs
}

// ofGame returns the sheets of a game that prevail.
func ofGame(l []api.Fact, g api.Game) pair {
	return prevailing(l, func(x api.Game) bool { return x == g })[g]
}

package sheets_test

import (
	"reflect"
	"slices"

	"assize/api"
	"assize/facts"
)

// What the chapter defines, as it is written there, without regard to speed.

// equalParts reports whether two values are equal, where slices are lists of comparable values, and nil and empty are equal.
func equalParts(a, b reflect.Value) bool {
	if a.Kind() != reflect.Slice {
		return a.Interface() == b.Interface()
	}
	if a.Len() != b.Len() {
		return false
	}
	for i := range a.Len() {
		if a.Index(i).Interface() != b.Index(i).Interface() {
			return false
		}
	}
	return true
}

// differences has the names of the fields in which two sheets are not equal.
func differences(a, b api.Sheet) (names []string) {
	x, y := reflect.ValueOf(a), reflect.ValueOf(b)
	for i := range x.NumField() {
		if !equalParts(x.Field(i), y.Field(i)) {
			names = append(names, x.Type().Field(i).Name)
		}
	}
	return names
}

func equal(a, b api.Sheet) bool { return len(differences(a, b)) == 0 }

func sameOf(a, b api.Sheet) bool {
	for _, name := range differences(a, b) {
		if name != "Referee" {
			return false
		}
	}
	return true
}

func isSheet(f api.Fact) bool { return f.Kind == 3 && facts.Check(f) == api.OK }

func isSheetOf(f api.Fact, g api.Game, referee int) bool {
	return f.Sheet.Game == g && f.Sheet.Referee == referee && isSheet(f)
}

func latestOf(l []api.Fact, g api.Game, referee int) (s api.Sheet, day int, ok bool) {
	for _, f := range l {
		if !isSheetOf(f, g, referee) {
			continue
		}
		isAfter := func(h api.Fact) bool { return isSheetOf(h, g, referee) && facts.Compare(f, h) == -1 }
		if !slices.ContainsFunc(l, isAfter) {
			return f.Sheet, f.Day, true
		}
	}
	return api.Sheet{}, 0, false
}

func scoreOf(l []api.Fact, g api.Game) api.Score {
	first, firstDay, hasFirst := latestOf(l, g, 0)
	second, secondDay, hasSecond := latestOf(l, g, 1)
	greater := firstDay
	if secondDay > firstDay {
		greater = secondDay
	}
	if hasFirst && hasSecond && sameOf(first, second) {
		return api.Score{Kind: 2, Sheet: first, Day: greater}
	}
	if hasFirst && hasSecond {
		return api.Score{Kind: 3, Day: greater}
	}
	if hasFirst {
		return api.Score{Kind: 1, Sheet: first, Day: firstDay}
	}
	if hasSecond {
		return api.Score{Kind: 1, Sheet: second, Day: secondDay}
	}
	return api.Score{}
}

func isLess(a, b api.Game) bool {
	if a.Season != b.Season {
		return a.Season < b.Season
	}
	if a.Comp != b.Comp {
		return a.Comp < b.Comp
	}
	if a.Home != b.Home {
		return a.Home < b.Home
	}
	return a.Away < b.Away
}

// allGamesOf has the games of which there are sheets, in order, each once.
func allGamesOf(l []api.Fact) (x []api.Game) {
	for _, f := range l {
		if !isSheet(f) || slices.Contains(x, f.Sheet.Game) {
			continue
		}
		less := 0
		for _, g := range x {
			if isLess(g, f.Sheet.Game) {
				less++
			}
		}
		x = slices.Insert(x, less, f.Sheet.Game)
	}
	return x
}

func gamesOf(l []api.Fact, season, comp int) (x []api.Game) {
	for _, g := range allGamesOf(l) {
		if g.Season == season && g.Comp == comp {
			x = append(x, g)
		}
	}
	return x
}

func disputesOf(l []api.Fact) (x []api.Game) {
	for _, g := range allGamesOf(l) {
		if scoreOf(l, g).Kind == 3 {
			x = append(x, g)
		}
	}
	return x
}

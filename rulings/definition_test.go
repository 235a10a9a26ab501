package rulings_test

import (
	"slices"

	"assize/api"
	"assize/facts"
)

// What the chapter defines, as it is written there, without regard to speed.

// counted has the facts that count, each once, where all those that are less come before it.
func counted(l []api.Fact) (x []api.Fact) {
	for _, f := range l {
		if facts.Check(f) != api.OK || slices.ContainsFunc(x, func(g api.Fact) bool { return facts.Same(f, g) }) {
			continue
		}
		less := 0
		for _, g := range x {
			if facts.Compare(g, f) == -1 {
				less++
			}
		}
		x = with(x, less, f)
	}
	return x
}

func isRulingOf(f api.Fact, number, instance int) bool {
	return f.Kind == 4 && f.Ruling.Case == number && f.Ruling.Instance == instance
}

// The functions below are given facts that count, in canonical order.

// rulingsBy has the facts that are rulings of a case by an instance.
func rulingsBy(l []api.Fact, number, instance int) (x []api.Fact) {
	for _, f := range l {
		if isRulingOf(f, number, instance) {
			x = append(x, f)
		}
	}
	return x
}

// lastOf has the last instance of a case, or 0 if the case has no rulings.
func lastOf(l []api.Fact, number int) (last int) {
	for _, f := range l {
		if isRulingOf(f, number, f.Ruling.Instance) && f.Ruling.Instance > last {
			last = f.Ruling.Instance
		}
	}
	return last
}

func suspendedOf(l []api.Fact, number int) bool {
	last := lastOf(l, number)
	return last > 0 && slices.ContainsFunc(l, func(f api.Fact) bool {
		return f.Kind == 5 && f.Appeal == api.Appeal{Case: number, Instance: last, Suspends: true}
	})
}

func ofCase(l []api.Fact, number int) (f api.Fact, ok bool) {
	last := lastOf(l, number)
	if last == 0 || suspendedOf(l, number) {
		return api.Fact{}, false
	}
	return rulingsBy(l, number, last)[0], true
}

// inForceOf has the facts that are the rulings in force of all cases, in the order of the cases.
func inForceOf(l []api.Fact) (x []api.Fact) {
	var numbers []int
	for _, f := range l {
		if f.Kind == 4 {
			numbers = append(numbers, f.Ruling.Case)
		}
	}
	slices.Sort(numbers)
	for _, number := range slices.Compact(numbers) {
		if f, ok := ofCase(l, number); ok {
			x = append(x, f)
		}
	}
	return x
}

func voidOf(l []api.Fact) (x []api.Fact) {
	for _, f := range l {
		if f.Kind == 4 && !facts.Same(f, rulingsBy(l, f.Ruling.Case, f.Ruling.Instance)[0]) {
			x = append(x, f)
		}
	}
	return x
}

func ofGame(l []api.Fact, g api.Game) (last api.Fact, ok bool) {
	force := inForceOf(l)
	for _, f := range l {
		isInForce := slices.ContainsFunc(force, func(h api.Fact) bool { return facts.Same(f, h) })
		if isInForce && (f.Ruling.Kind == 1 || f.Ruling.Kind == 2 || f.Ruling.Kind == 3) && f.Ruling.Game == g {
			last, ok = f, true
		}
	}
	return last, ok
}

func pointsOf(l []api.Fact, season, comp, club int) (n int) {
	for _, f := range inForceOf(l) {
		if r := f.Ruling; r.Kind == 4 && r.Season == season && r.Comp == comp && r.Club == club {
			n += r.Points
		}
	}
	return n
}

// bansOf has an interval for each day on which the club is banned, but not on the day before, to the next day on which it
// is, but not on the day after.
func bansOf(l []api.Fact, club int) (x []api.Interval) {
	var days []api.Interval
	for _, f := range inForceOf(l) {
		if f.Ruling.Kind == 5 && f.Ruling.Club == club {
			days = append(days, f.Ruling.Days)
		}
	}
	isBanned := func(day int) bool {
		return slices.ContainsFunc(days, func(i api.Interval) bool { return i.From <= day && day <= i.To })
	}
	var first, last []int
	for _, i := range days {
		if !isBanned(i.From - 1) {
			first = append(first, i.From)
		}
		if !isBanned(i.To + 1) {
			last = append(last, i.To)
		}
	}
	slices.Sort(first)
	slices.Sort(last)
	first, last = slices.Compact(first), slices.Compact(last)
	for i := range first {
		x = append(x, api.Interval{From: first[i], To: last[i]})
	}
	return x
}

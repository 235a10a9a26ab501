package ledger_test

import (
	"math/rand/v2"
	"reflect"
	"slices"
	"testing"

	"assize/api"
	"assize/facts"
	"assize/ledger"
)

// The limits are written as the document writes them.
const (
	lastDay   = 1 << 20
	mostFacts = 65536
)

var in = api.Game{Season: 4, Comp: 2, Home: 5, Away: 7}

// on has a fact with a day of its effect and a day on which it was recorded.
func on(day, known int, f api.Fact) api.Fact {
	f.Day, f.Known = day, known
	return f
}

func move(player int) api.Fact {
	return api.Fact{Kind: api.MoveF, Move: api.Move{Player: player, To: 2}}
}

// idOf has the identifier of a valid fact.
func idOf(f api.Fact) api.Digest {
	d, e := facts.ID(f)
	if e != api.OK {
		panic("not a valid fact")
	}
	return d
}

// voidOf has the VoidF that names a fact.
func voidOf(f api.Fact) api.Fact { return api.Fact{Kind: api.VoidF, Void: idOf(f)} }

// kinds has a fact of each kind, by the numbers of the kinds.
func kinds() []api.Fact {
	return []api.Fact{
		{Kind: api.EntrantsF, Entrants: api.Entrants{Season: 4, Comp: 2, Clubs: []int{1, 5, 7}, Rules: "a"}},
		{Kind: api.FixtureF, Fixture: api.Fixture{Game: in, Venue: 3}},
		{Kind: api.SheetF, Sheet: api.Sheet{
			Game: in, HomeGoals: 2, AwayGoals: 1, HomeSquad: []int{10, 11}, AwaySquad: []int{12}, HomeCards: []api.Card{{Player: 11}},
		}},
		{Kind: api.RulingF, Ruling: api.Ruling{Case: 7, Instance: 1, Kind: api.ForfeitR, Game: in, Club: 5}},
		{Kind: api.AppealF, Appeal: api.Appeal{Case: 7, Instance: 1, Suspends: true}},
		move(5),
		{Kind: api.LotF, Lot: api.Lot{Season: 4, Comp: 2, Order: []int{7, 1, 5}}},
		{Kind: api.VoidF, Void: api.Digest{1, 2, 3}},
	}
}

// invalid has facts that are not valid.
func invalid() []api.Fact {
	return []api.Fact{
		{}, {Kind: 9}, {Kind: api.SheetF}, {Kind: api.VoidF, Day: -1}, {Kind: api.VoidF, Known: -1},
		{Kind: api.VoidF, Day: lastDay + 1}, {Kind: api.VoidF, Known: lastDay + 1}, {Kind: api.VoidF, Move: api.Move{To: 1}},
		on(3, 3, api.Fact{Kind: api.MoveF, Move: api.Move{Player: 8192}}), on(lastDay, lastDay, api.Fact{Kind: api.MoveF, Move: api.Move{To: -2}}),
	}
}

// pool has valid facts of all kinds on days from 0 to 6 and on the last one, all of them different, and VoidFs with early
// and late days: of facts that are recorded before, with and after them, of some facts twice, of nothing, and of VoidFs.
func pool() (l []api.Fact) {
	for i, f := range kinds() {
		l = append(l, on(i%4, i%3+1, f), on(i%3+2, 2, f), on(3, (i+2)%5, f))
	}
	l = append(l, on(0, 0, move(5)), on(lastDay, 0, move(5)), on(0, lastDay, move(5)), on(lastDay, lastDay, move(5)))
	for i, f := range slices.Clone(l) {
		v := voidOf(f)
		early, late := max(f.Known-1, 0), min(f.Known+1+i%2, lastDay)
		switch i % 5 {
		case 0:
			l = append(l, on(3, f.Known, v))
		case 1:
			l = append(l, on(6-i%7, late, v))
		case 2:
			l = append(l, on(lastDay, late, v), on(0, 5, v), on(0, 5, voidOf(on(lastDay, late, v))))
		case 3:
			l = append(l, on(2, early, v), on(lastDay, lastDay, voidOf(on(2, early, v))))
		}
	}
	slices.SortFunc(l, facts.Compare)
	return slices.CompactFunc(l, facts.Same)
}

// days has the days around those of the pool, and such as are none.
func days() []int {
	return []int{-1 << 63, -1, 0, 1, 2, 3, 4, 5, 6, 7, lastDay - 1, lastDay, lastDay + 1, 1<<63 - 1}
}

// many has so many valid facts in canonical order: their order is decided by the days on which they were recorded.
func many(n int) (l []api.Fact) {
	l = make([]api.Fact, 0, n)
	for i := range n {
		l = append(l, on(i%7, 3*i, move(9)))
	}
	return l
}

// alike has so many different valid facts of the same kind and the same days.
func alike(n int) (l []api.Fact) {
	l = make([]api.Fact, 0, n)
	for i := range n {
		l = append(l, on(3, 4, api.Fact{Kind: api.MoveF, Move: api.Move{Player: i % 8192, To: i/8192 - 1}}))
	}
	return l
}

// some has drawn elements of a list, in its order.
func some(r *rand.Rand, l []api.Fact, perCent int) (part []api.Fact) {
	for _, f := range l {
		if r.IntN(100) < perCent {
			part = append(part, f)
		}
	}
	return part
}

func shuffled(r *rand.Rand, l []api.Fact) []api.Fact {
	l = slices.Clone(l)
	r.Shuffle(len(l), func(i, k int) { l[i], l[k] = l[k], l[i] })
	return l
}

// with has a list with further elements from an index on.
func with(l []api.Fact, at int, more ...api.Fact) []api.Fact {
	return slices.Concat(l[:at], more, l[at:])
}

func of(l ...api.Fact) api.Ledger { return api.Ledger{Facts: l} }

func sameFacts(a, b []api.Fact) bool { return slices.EqualFunc(a, b, facts.Same) }

func same(a, b api.Ledger) bool { return sameFacts(a.Facts, b.Facts) }

// mustNew has the ledger of facts, which are valid.
func mustNew(t *testing.T, l ...api.Fact) api.Ledger {
	t.Helper()
	x, e := ledger.New(l)
	if e != api.OK {
		t.Fatalf("New of %d valid facts: %d", len(l), e)
	}
	return x
}

// deep shares no memory with a fact, and has empty slices instead of nil.
func deep(f api.Fact) api.Fact {
	f.Entrants.Clubs = append([]int{}, f.Entrants.Clubs...)
	f.Sheet.HomeSquad = append([]int{}, f.Sheet.HomeSquad...)
	f.Sheet.AwaySquad = append([]int{}, f.Sheet.AwaySquad...)
	f.Sheet.HomeCards = append([]api.Card{}, f.Sheet.HomeCards...)
	f.Sheet.AwayCards = append([]api.Card{}, f.Sheet.AwayCards...)
	f.Lot.Order = append([]int{}, f.Lot.Order...)
	return f
}

func deepAll(l []api.Fact) []api.Fact {
	c := make([]api.Fact, 0, len(l))
	for _, f := range l {
		c = append(c, deep(f))
	}
	return c
}

// guarded has a list with space for further elements behind it, which contains facts, and a function that reports whether
// all of this is as it was.
func guarded(l []api.Fact) (spacious []api.Fact, intact func() bool) {
	all := append(deepAll(l), deepAll(kinds())...)
	before := deepAll(all)
	return all[:len(l)], func() bool { return reflect.DeepEqual(all, before) }
}

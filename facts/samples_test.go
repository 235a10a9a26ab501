package facts_test

import (
	"math"
	"reflect"
	"slices"
	"strings"

	"assize/api"
)

// dated has a fact of a kind that takes effect on day 9 and was recorded on day 10.
func dated(kind int) api.Fact { return api.Fact{Kind: kind, Day: 9, Known: 10} }

func entrants(x api.Entrants) api.Fact {
	f := dated(api.EntrantsF)
	f.Entrants = x
	return f
}

func fixture(x api.Fixture) api.Fact {
	f := dated(api.FixtureF)
	f.Fixture = x
	return f
}

func sheet(x api.Sheet) api.Fact {
	f := dated(api.SheetF)
	f.Sheet = x
	return f
}

func ruling(x api.Ruling) api.Fact {
	f := dated(api.RulingF)
	f.Ruling = x
	return f
}

func appeal(x api.Appeal) api.Fact {
	f := dated(api.AppealF)
	f.Appeal = x
	return f
}

func move(x api.Move) api.Fact {
	f := dated(api.MoveF)
	f.Move = x
	return f
}

func lot(x api.Lot) api.Fact {
	f := dated(api.LotF)
	f.Lot = x
	return f
}

func void(d api.Digest) api.Fact {
	f := dated(api.VoidF)
	f.Void = d
	return f
}

// from has so many numbers, beginning with the given one.
func from(first, many int) (l []int) {
	for i := range many {
		l = append(l, first+i)
	}
	return l
}

// digestOf has a digest whose bytes are the 32 from the given one on.
func digestOf(first byte) (d api.Digest) {
	for i := range d {
		d[i] = first + byte(i)
	}
	return d
}

// shown has a card for each of the players, every third one red.
func shown(players ...int) (l []api.Card) {
	for i, p := range players {
		l = append(l, api.Card{Player: p, Red: i%3 == 2})
	}
	return l
}

// in and cup are games of a league and of a cup.
var (
	in  = api.Game{Season: 4, Comp: 2, Home: 5, Away: 7}
	cup = api.Game{Season: 4, Comp: 9, Home: 5, Away: 7}
)

// leagueSheet and cupSheet are sheets on which nothing is empty.
func leagueSheet() api.Sheet {
	return api.Sheet{
		Game: in, Referee: 1, HomeGoals: 2, AwayGoals: 1,
		HomeSquad: []int{10, 11, 15}, AwaySquad: []int{3, 12, 200},
		HomeCards: []api.Card{{Player: 15}, {Player: 10, Red: true}, {Player: 15}}, AwayCards: []api.Card{{Player: 3, Red: true}},
	}
}

func cupSheet() api.Sheet {
	s := leagueSheet()
	s.Game, s.HomeGoals, s.AwayGoals, s.HomePens, s.AwayPens = cup, 1, 1, 4, 5
	return s
}

// rulings has a ruling of each kind, and some more.
func rulings() []api.Ruling {
	return []api.Ruling{
		{Case: 7, Instance: 1, Kind: api.ForfeitR, Game: in, Club: 5},
		{Case: 7, Instance: 2, Kind: api.ForfeitR, Game: in, Club: 7},
		{Case: 8, Instance: 3, Kind: api.AnnulR, Game: in},
		{Case: 9, Instance: 1, Kind: api.ScoreR, Game: cup, HomeGoals: 3, AwayGoals: 2},
		{Case: 9, Instance: 1, Kind: api.ScoreR, Game: cup},
		{Case: 10, Instance: 1, Kind: api.PointsR, Club: 5, Season: 4, Comp: 2, Points: 3},
		{Case: 10, Instance: 1, Kind: api.PointsR, Points: 1},
		{Case: 11, Instance: 1, Kind: api.BanR, Club: 5, Days: api.Interval{From: 100, To: 200}},
		{Case: 11, Instance: 1, Kind: api.BanR},
		{Case: 12, Instance: 1, Kind: api.UnfitR, Player: 11, Days: api.Interval{From: 100, To: 100}},
		{Case: 12, Instance: 1, Kind: api.UnfitR},
		{Case: 13, Instance: 2, Kind: api.FineR, Club: 5, Amount: 1234567},
		{Case: 13, Instance: 2, Kind: api.FineR, Amount: 1},
		{Case: 14, Instance: 2, Kind: api.NothingR},
	}
}

// samples has valid facts of each kind, all of them different.
func samples() []api.Fact {
	l := []api.Fact{
		entrants(api.Entrants{Season: 4, Comp: 2, Clubs: []int{1, 5, 7}, Rules: "first_2"}),
		entrants(api.Entrants{Comp: 9, Clubs: []int{0, 191}}),
		entrants(api.Entrants{Season: 63, Comp: 7, Clubs: from(168, 24), Rules: strings.Repeat("z", 24)}),
		fixture(api.Fixture{Game: in, Venue: 12}),
		fixture(api.Fixture{Game: cup}),
		sheet(leagueSheet()), sheet(cupSheet()), sheet(api.Sheet{Game: in}), sheet(api.Sheet{Game: cup}),
		sheet(api.Sheet{
			Game: in, HomeSquad: from(0, 40), AwaySquad: from(8152, 40),
			HomeCards: shown(from(0, 40)...), AwayCards: shown(slices.Repeat([]int{8191}, 40)...),
		}),
		appeal(api.Appeal{Case: 7, Instance: 1, Suspends: true}),
		appeal(api.Appeal{Case: 7, Instance: 2}),
		move(api.Move{Player: 5, To: 2}),
		move(api.Move{To: -1}),
		move(api.Move{}),
		lot(api.Lot{Season: 4, Comp: 2, Order: []int{7, 1, 5}}),
		lot(api.Lot{Comp: 15, Order: []int{191, 0}}),
		void(digestOf(200)),
		void(api.Digest{}),
		{Kind: api.VoidF},
		{Kind: api.MoveF, Day: api.MaxDay, Known: api.MaxDay},
	}
	for _, r := range rulings() {
		l = append(l, ruling(r))
	}
	return l
}

// invalid has facts that are not valid, each for one reason, all of them different.
func invalid() []api.Fact {
	return []api.Fact{
		{}, {Kind: -1}, {Kind: 9, Day: 9, Known: 10}, {Kind: math.MinInt}, {Kind: math.MaxInt},
		{Kind: api.MoveF, Day: -1}, {Kind: api.MoveF, Day: api.MaxDay + 1}, {Kind: api.MoveF, Known: -1}, {Kind: api.MoveF, Known: api.MaxDay + 1},
		{Kind: api.EntrantsF}, {Kind: api.FixtureF}, {Kind: api.SheetF}, {Kind: api.RulingF}, {Kind: api.AppealF}, {Kind: api.LotF},
		{Kind: api.VoidF, Move: api.Move{To: -1}}, {Kind: 0, Day: 9, Known: 10, Move: api.Move{Player: 5, To: 2}},
		entrants(api.Entrants{Clubs: []int{1, 1}, Rules: "a"}), entrants(api.Entrants{Clubs: []int{2, 1}, Rules: "a"}),
		entrants(api.Entrants{Clubs: []int{1, 2}}), entrants(api.Entrants{Comp: 8, Clubs: []int{1, 2}, Rules: "a"}),
		fixture(api.Fixture{Game: api.Game{Home: 3, Away: 3}}), fixture(api.Fixture{Game: in, Venue: 4096}),
		sheet(api.Sheet{Game: in, HomePens: 4, AwayPens: 3}), sheet(api.Sheet{Game: in, HomeCards: shown(1)}),
		ruling(api.Ruling{Case: 1, Instance: 1}), ruling(api.Ruling{Case: 1, Instance: 1, Kind: api.NothingR, Club: 1}),
		appeal(api.Appeal{Case: 1, Instance: 3}), move(api.Move{To: -2}), move(api.Move{Player: 8192}),
		lot(api.Lot{Order: []int{1, 2, 1}}), lot(api.Lot{Order: []int{1}}),
	}
}

// copied shares no memory with the fact, nor does it keep the difference of nil and empty.
func copied(f api.Fact) api.Fact {
	f.Entrants.Clubs = append([]int{}, f.Entrants.Clubs...)
	f.Sheet.HomeSquad = append([]int{}, f.Sheet.HomeSquad...)
	f.Sheet.AwaySquad = append([]int{}, f.Sheet.AwaySquad...)
	f.Sheet.HomeCards = append([]api.Card{}, f.Sheet.HomeCards...)
	f.Sheet.AwayCards = append([]api.Card{}, f.Sheet.AwayCards...)
	f.Lot.Order = append([]int{}, f.Lot.Order...)
	return f
}

// change is a way to change a fact: it sets a number, a truth value, a text or a byte that stands in it, whose path is its name.
type change struct {
	path string
	make func(f *api.Fact, n int)
}

// changes has the ways to change each part of a fact, the elements of its slices among them, and the length of each slice.
func changes(f api.Fact) (l []change) {
	collect(reflect.ValueOf(f), "", func(v reflect.Value) reflect.Value { return v }, &l)
	return l
}

// collect adds the changes of a part of a fact, which reach leads to from the fact.
func collect(v reflect.Value, path string, reach func(reflect.Value) reflect.Value, l *[]change) {
	set := func(path string, to func(v reflect.Value, n int)) {
		*l = append(*l, change{strings.TrimPrefix(path, "."), func(f *api.Fact, n int) {
			*f = copied(*f)
			to(reach(reflect.ValueOf(f).Elem()), n)
		}})
	}
	switch v.Kind() {
	case reflect.Int:
		set(path, func(v reflect.Value, n int) { v.SetInt(int64(n)) })
	case reflect.Bool:
		set(path, func(v reflect.Value, n int) { v.SetBool(n%2 != 0) })
	case reflect.String:
		set(path, func(v reflect.Value, n int) { v.SetString(strings.Repeat("a", n&63)) })
	case reflect.Uint8:
		set(path, func(v reflect.Value, n int) { v.SetUint(uint64(byte(n))) })
	case reflect.Struct:
		for i := range v.NumField() {
			collect(v.Field(i), path+"."+v.Type().Field(i).Name, func(v reflect.Value) reflect.Value { return reach(v).Field(i) }, l)
		}
	case reflect.Slice, reflect.Array:
		for i := range v.Len() {
			collect(v.Index(i), path+"[]", func(v reflect.Value) reflect.Value { return reach(v).Index(i) }, l)
		}
	}
	if v.Kind() == reflect.Slice {
		set(path+"+", func(v reflect.Value, n int) {
			x := reflect.New(v.Type().Elem()).Elem()
			if v.Len() > 0 {
				x.Set(v.Index(v.Len() - 1))
			}
			if x.Kind() == reflect.Int {
				x.SetInt(int64(n))
			}
			v.Set(reflect.Append(v, x))
		})
		set(path+"-", func(v reflect.Value, n int) { v.Set(v.Slice(0, max(v.Len()-1, 0))) })
	}
}

// edges has the numbers at the ends of all ranges, and around them.
func edges() (l []int) {
	for _, n := range []int{0, 1, 2, 3, 8, 15, 63, 99, 191, 4095, 8191, 1 << 20, 1 << 50} {
		l = append(l, n-1, n, n+1)
	}
	l = append(l, math.MinInt, math.MinInt+1, math.MaxInt-1, math.MaxInt, -256, -2, 1<<32, 1<<32+5, 1<<51, 1<<63-1<<32, 256, 300, 9000)
	slices.Sort(l)
	return slices.Compact(l)
}

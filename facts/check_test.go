package facts_test

import (
	"math"
	"math/rand/v2"
	"slices"
	"strings"
	"testing"

	"assize/api"
	"assize/facts"
)

// expect reports an error unless Check says of the fact what is expected.
func expect(t *testing.T, f api.Fact, ok bool) {
	t.Helper()
	want := api.ErrFact
	if ok {
		want = api.OK
	}
	if e := facts.Check(f); e != want {
		t.Errorf("Check(%+v) = %d, want %d", f, e, want)
	}
}

// P7.1: valid facts of each kind, rulings of each kind, and facts that are not valid.
func TestCheck(t *testing.T) {
	for _, f := range samples() {
		expect(t, f, true)
	}
	for _, f := range invalid() {
		expect(t, f, false)
	}
}

// P7.1: the examples of the chapter.
func TestExamplesOfCheck(t *testing.T) {
	expect(t, api.Fact{}, false)
	expect(t, sheet(api.Sheet{Game: in, HomeGoals: 1, AwayGoals: 1, HomePens: 4, AwayPens: 3}), false)
	expect(t, ruling(api.Ruling{Case: 1, Instance: 1, Kind: api.NothingR, Club: 3}), false)
	expect(t, api.Fact{Kind: api.VoidF}, true)
	expect(t, move(api.Move{Player: 5, To: -1}), true)
	if e := facts.Game(api.Game{Home: 3, Away: 3}); e != api.ErrFact {
		t.Errorf("a club against itself: %d", e)
	}
}

// P7.1: the numbers of a game.
func TestGame(t *testing.T) {
	for _, n := range edges() {
		for _, g := range []api.Game{
			in, cup, {Season: n, Comp: 2, Home: 5, Away: 7}, {Season: 4, Comp: n, Home: 5, Away: 7},
			{Season: 4, Comp: 2, Home: n, Away: 7}, {Season: 4, Comp: 2, Home: 5, Away: n},
			{Season: 4, Comp: 2, Home: n, Away: n}, {Season: n, Comp: n, Home: n, Away: n}, {Home: n}, {Away: n},
		} {
			want := api.ErrFact
			if validGame(g) {
				want = api.OK
			}
			if e := facts.Game(g); e != want {
				t.Errorf("Game(%+v) = %d, want %d", g, e, want)
			}
			expect(t, fixture(api.Fixture{Game: g}), want == api.OK)
			expect(t, sheet(api.Sheet{Game: g}), want == api.OK)
			expect(t, ruling(api.Ruling{Case: 1, Instance: 1, Kind: api.AnnulR, Game: g}), want == api.OK)
			expect(t, ruling(api.Ruling{Case: 1, Instance: 1, Kind: api.ScoreR, Game: g, AwayGoals: 1}), want == api.OK)
			expect(t, ruling(api.Ruling{Case: 1, Instance: 1, Kind: api.ForfeitR, Game: g, Club: g.Home}), want == api.OK)
			expect(t, ruling(api.Ruling{Case: 1, Instance: 1, Kind: api.ForfeitR, Game: g, Club: g.Away}), want == api.OK)
		}
	}
}

// ranged is a number of a fact, or how many there are of something, with its range.
type ranged struct {
	name     string
	least    int
	greatest int
	with     func(n int) api.Fact
}

func rangesOfFacts() []ranged {
	ofEntrants := func(set func(x *api.Entrants, n int)) func(n int) api.Fact {
		return func(n int) api.Fact {
			x := api.Entrants{Season: 4, Comp: 2, Clubs: []int{1, 5, 7}, Rules: "a"}
			set(&x, n)
			return entrants(x)
		}
	}
	return []ranged{
		{"Day", 0, 1048576, func(n int) api.Fact { return api.Fact{Kind: api.VoidF, Day: n} }},
		{"Known", 0, 1048576, func(n int) api.Fact { return api.Fact{Kind: api.VoidF, Known: n} }},
		{"Season of entrants", 0, 63, ofEntrants(func(x *api.Entrants, n int) { x.Season = n })},
		{"Comp with rules", 0, 7, ofEntrants(func(x *api.Entrants, n int) { x.Comp = n })},
		{"Comp without rules", 8, 15, ofEntrants(func(x *api.Entrants, n int) { x.Comp, x.Rules = n, "" })},
		{"first club", 0, 4, ofEntrants(func(x *api.Entrants, n int) { x.Clubs[0] = n })},
		{"second club", 2, 6, ofEntrants(func(x *api.Entrants, n int) { x.Clubs[1] = n })},
		{"last club", 6, 191, ofEntrants(func(x *api.Entrants, n int) { x.Clubs[2] = n })},
		{"Venue", 0, 4095, func(n int) api.Fact { return fixture(api.Fixture{Game: in, Venue: n}) }},
		{"Case of an appeal", 1, 1048576, func(n int) api.Fact { return appeal(api.Appeal{Case: n, Instance: 1}) }},
		{"Instance of an appeal", 1, 2, func(n int) api.Fact { return appeal(api.Appeal{Case: 1, Instance: n, Suspends: true}) }},
		{"Player of a move", 0, 8191, func(n int) api.Fact { return move(api.Move{Player: n, To: -1}) }},
		{"To", -1, 191, func(n int) api.Fact { return move(api.Move{To: n}) }},
		{"Season of lots", 0, 63, func(n int) api.Fact { return lot(api.Lot{Season: n, Order: []int{1, 0}}) }},
		{"Comp of lots", 0, 15, func(n int) api.Fact { return lot(api.Lot{Comp: n, Order: []int{1, 0}}) }},
		{"first of lots", 0, 190, func(n int) api.Fact { return lot(api.Lot{Order: []int{n, 191}}) }},
		{"last of lots", 1, 191, func(n int) api.Fact { return lot(api.Lot{Order: []int{0, n}}) }},
	}
}

func rangesOfSheets() []ranged {
	of := func(s func() api.Sheet, set func(s *api.Sheet, n int)) func(n int) api.Fact {
		return func(n int) api.Fact {
			x := s()
			set(&x, n)
			return sheet(x)
		}
	}
	plain := func() api.Sheet { return api.Sheet{Game: in} }
	return []ranged{
		{"Referee", 0, 1, of(leagueSheet, func(s *api.Sheet, n int) { s.Referee = n })},
		{"HomeGoals", 0, 99, of(leagueSheet, func(s *api.Sheet, n int) { s.HomeGoals = n })},
		{"AwayGoals", 0, 99, of(leagueSheet, func(s *api.Sheet, n int) { s.AwayGoals = n })},
		{"HomePens of a league", 0, 0, of(leagueSheet, func(s *api.Sheet, n int) { s.HomePens = n })},
		{"AwayPens of a league", 0, 0, of(leagueSheet, func(s *api.Sheet, n int) { s.AwayPens = n })},
		{"HomePens against 0", 0, 99, of(cupSheet, func(s *api.Sheet, n int) { s.HomePens, s.AwayPens = n, 0 })},
		{"AwayPens against 0", 0, 99, of(cupSheet, func(s *api.Sheet, n int) { s.HomePens, s.AwayPens = 0, n })},
		{"HomePens against more", 0, 98, of(cupSheet, func(s *api.Sheet, n int) { s.HomePens, s.AwayPens = n, 99 })},
		{"AwayPens against more", 0, 98, of(cupSheet, func(s *api.Sheet, n int) { s.HomePens, s.AwayPens = 99, n })},
		{"equal penalties", 0, 0, of(cupSheet, func(s *api.Sheet, n int) { s.HomePens, s.AwayPens = n, n })},
		{"Comp with penalties", 8, 15, of(cupSheet, func(s *api.Sheet, n int) { s.Game.Comp = n })},
		{"Comp without penalties", 0, 15, of(leagueSheet, func(s *api.Sheet, n int) { s.Game.Comp = n })},
		{"first player at home", 0, 8, of(plain, func(s *api.Sheet, n int) { s.HomeSquad = []int{n, 9} })},
		{"first player away", 0, 8, of(plain, func(s *api.Sheet, n int) { s.AwaySquad = []int{n, 9} })},
		{"last player at home", 10, 8191, of(plain, func(s *api.Sheet, n int) { s.HomeSquad = []int{8, 9, n} })},
		{"last player away", 10, 8191, of(plain, func(s *api.Sheet, n int) { s.AwaySquad = []int{8, 9, n} })},
		{"only player at home", 0, 8191, of(plain, func(s *api.Sheet, n int) { s.HomeSquad = []int{n} })},
		{"only player away", 0, 8191, of(plain, func(s *api.Sheet, n int) { s.AwaySquad = []int{n} })},
		{"player with a card at home", 9, 9, of(plain, func(s *api.Sheet, n int) { s.HomeSquad, s.AwaySquad, s.HomeCards = []int{9}, []int{8}, shown(9, n) })},
		{"player with a card away", 9, 9, of(plain, func(s *api.Sheet, n int) { s.HomeSquad, s.AwaySquad, s.AwayCards = []int{8}, []int{9}, shown(n, 9) })},
	}
}

func rangesOfRulings() []ranged {
	of := func(r api.Ruling, set func(r *api.Ruling, n int)) func(n int) api.Fact {
		return func(n int) api.Fact {
			x := r
			x.Case, x.Instance = max(x.Case, 1), max(x.Instance, 1)
			set(&x, n)
			return ruling(x)
		}
	}
	l := []ranged{
		{"HomeGoals of a score", 0, 99, of(api.Ruling{Kind: api.ScoreR, Game: in}, func(r *api.Ruling, n int) { r.HomeGoals = n })},
		{"AwayGoals of a score", 0, 99, of(api.Ruling{Kind: api.ScoreR, Game: in}, func(r *api.Ruling, n int) { r.AwayGoals = n })},
		{"Club that loses points", 0, 191, of(api.Ruling{Kind: api.PointsR, Points: 1}, func(r *api.Ruling, n int) { r.Club = n })},
		{"Season", 0, 63, of(api.Ruling{Kind: api.PointsR, Points: 1}, func(r *api.Ruling, n int) { r.Season = n })},
		{"Comp", 0, 15, of(api.Ruling{Kind: api.PointsR, Points: 1}, func(r *api.Ruling, n int) { r.Comp = n })},
		{"Points", 1, 99, of(api.Ruling{Kind: api.PointsR}, func(r *api.Ruling, n int) { r.Points = n })},
		{"Club that is banned", 0, 191, of(api.Ruling{Kind: api.BanR}, func(r *api.Ruling, n int) { r.Club = n })},
		{"Player", 0, 8191, of(api.Ruling{Kind: api.UnfitR}, func(r *api.Ruling, n int) { r.Player = n })},
		{"Club that pays", 0, 191, of(api.Ruling{Kind: api.FineR, Amount: 1}, func(r *api.Ruling, n int) { r.Club = n })},
		{"Amount", 1, 1125899906842624, of(api.Ruling{Kind: api.FineR}, func(r *api.Ruling, n int) { r.Amount = n })},
	}
	for _, kind := range []int{api.BanR, api.UnfitR} {
		l = append(l,
			ranged{"From", 0, 63, of(api.Ruling{Kind: kind, Days: api.Interval{To: 63}}, func(r *api.Ruling, n int) { r.Days.From = n })},
			ranged{"To", 63, 1048576, of(api.Ruling{Kind: kind, Days: api.Interval{From: 63}}, func(r *api.Ruling, n int) { r.Days.To = n })},
			ranged{"From before the last day", 0, 1048576, of(api.Ruling{Kind: kind, Days: api.Interval{To: 1048576}}, func(r *api.Ruling, n int) { r.Days.From = n })},
			ranged{"To after the first day", 0, 1048576, of(api.Ruling{Kind: kind}, func(r *api.Ruling, n int) { r.Days.To = n })},
			ranged{"a single day", 0, 1048576, of(api.Ruling{Kind: kind}, func(r *api.Ruling, n int) { r.Days = api.Interval{From: n, To: n} })},
		)
	}
	for _, r := range rulings() {
		l = append(l,
			ranged{"Case", 1, 1048576, of(r, func(r *api.Ruling, n int) { r.Case = n })},
			ranged{"Instance", 1, 3, of(r, func(r *api.Ruling, n int) { r.Instance = n })},
		)
	}
	return l
}

// P7.1: each number at the ends of its range, beyond them, and far away.
func TestRanges(t *testing.T) {
	for _, r := range slices.Concat(rangesOfFacts(), rangesOfSheets(), rangesOfRulings()) {
		for _, n := range append(edges(), r.least-1, r.least, r.least+1, r.greatest-1, r.greatest, r.greatest+1) {
			f := r.with(n)
			if e := facts.Check(f); (e == api.OK) != between(n, r.least, r.greatest) || e != api.OK && e != api.ErrFact {
				t.Errorf("%s %d: Check(%+v) = %d", r.name, n, f, e)
			}
		}
	}
}

// P7.1: as many clubs, players, cards and bytes as there may be, and more and fewer.
func TestCounts(t *testing.T) {
	for _, r := range []ranged{
		{"clubs of a league", 2, 24, func(n int) api.Fact { return entrants(api.Entrants{Clubs: from(0, n), Rules: "a"}) }},
		{"clubs of a cup", 2, 24, func(n int) api.Fact { return entrants(api.Entrants{Comp: 8, Clubs: from(0, n)}) }},
		{"lots", 2, 24, func(n int) api.Fact { return lot(api.Lot{Order: from(0, n)}) }},
		{"bytes of a name", 1, 24, func(n int) api.Fact {
			return entrants(api.Entrants{Clubs: from(0, 2), Rules: strings.Repeat("a", n)})
		}},
		{"bytes of a name of a cup", 0, 0, func(n int) api.Fact {
			return entrants(api.Entrants{Comp: 8, Clubs: from(0, 2), Rules: strings.Repeat("a", n)})
		}},
		{"players at home", 0, 40, func(n int) api.Fact { return sheet(api.Sheet{Game: in, HomeSquad: from(0, n)}) }},
		{"players away", 0, 40, func(n int) api.Fact { return sheet(api.Sheet{Game: in, AwaySquad: from(0, n)}) }},
		{"cards at home", 0, 40, func(n int) api.Fact {
			return sheet(api.Sheet{Game: in, HomeSquad: []int{5}, HomeCards: shown(slices.Repeat([]int{5}, n)...)})
		}},
		{"cards away", 0, 40, func(n int) api.Fact {
			return sheet(api.Sheet{Game: in, AwaySquad: []int{5}, AwayCards: shown(slices.Repeat([]int{5}, n)...)})
		}},
	} {
		for _, n := range append(from(0, 60), 191, 192, 193, 8192, 100000) {
			if e := facts.Check(r.with(n)); (e == api.OK) != between(n, r.least, r.greatest) || e != api.OK && e != api.ErrFact {
				t.Errorf("%d %s: %d", n, r.name, e)
			}
		}
	}
}

// P7.1: every byte at the beginning of a name, in it, and at its end.
func TestNames(t *testing.T) {
	name := func(s string) api.Fact { return entrants(api.Entrants{Clubs: []int{0, 1}, Rules: s}) }
	for c := range 256 {
		b := string([]byte{byte(c)})
		letter := strings.Contains("abcdefghijklmnopqrstuvwxyz", b)
		more := letter || strings.Contains("0123456789_", b)
		for _, s := range []string{b, b + "a", b + "9_", b + strings.Repeat("x", 23)} {
			expect(t, name(s), letter)
		}
		for _, s := range []string{"a" + b, "a" + b + "z", strings.Repeat("x", 23) + b, "x" + b + strings.Repeat("0", 22)} {
			expect(t, name(s), more)
		}
		expect(t, name(strings.Repeat("x", 24)+b), false)
	}
	for _, s := range []string{"", "_", "_a", "1", "1a", "A", "aB", "a b", "a ", " a", "a\n", "\na", "a-b", "ä", "aä", "a.b", "a\x00"} {
		expect(t, name(s), false)
	}
}

// P7.1: lists of clubs that are equal or not increasing, which lots may be.
func TestListsOfClubs(t *testing.T) {
	for _, x := range []struct {
		l              []int
		entrants, lots bool
	}{
		{nil, false, false}, {[]int{}, false, false}, {[]int{3}, false, false}, {[]int{3, 4}, true, true}, {[]int{4, 3}, false, true},
		{[]int{3, 3}, false, false}, {[]int{1, 2, 2}, false, false}, {[]int{1, 1, 2}, false, false}, {[]int{1, 2, 1}, false, false},
		{[]int{1, 3, 2}, false, true}, {[]int{2, 1, 3}, false, true}, {[]int{191, 5, 0}, false, true}, {[]int{0, 5, 191}, true, true},
		{[]int{0, 192}, false, false}, {[]int{192, 0}, false, false}, {[]int{-1, 0}, false, false}, {[]int{0, -1}, false, false},
		{[]int{1, 192, 193}, false, false}, {[]int{math.MinInt, math.MaxInt}, false, false},
		{append(from(1, 23), 0), false, true}, {append(from(1, 23), 23), false, false}, {append(from(0, 23), 0), false, false},
		{append(from(0, 24), 24), false, false},
	} {
		expect(t, entrants(api.Entrants{Clubs: x.l, Rules: "a"}), x.entrants)
		expect(t, entrants(api.Entrants{Comp: 15, Clubs: x.l}), x.entrants)
		expect(t, lot(api.Lot{Order: x.l}), x.lots)
		expect(t, lot(api.Lot{Comp: 15, Order: x.l}), x.lots)
	}
}

// P7.1: squads that are increasing and have no player in common, and cards of their players.
func TestSquadsAndCards(t *testing.T) {
	for _, x := range []struct {
		home, away           []int
		homeCards, awayCards []int
		ok                   bool
	}{
		{nil, nil, nil, nil, true},
		{[]int{}, []int{}, []int{}, []int{}, true},
		{[]int{1, 3}, []int{2, 4}, nil, nil, true},
		{[]int{3, 1}, nil, nil, nil, false}, {nil, []int{3, 1}, nil, nil, false},
		{[]int{1, 1}, nil, nil, nil, false}, {nil, []int{1, 1}, nil, nil, false},
		{[]int{1, 3, 2}, nil, nil, nil, false}, {nil, []int{1, 3, 3}, nil, nil, false},
		{[]int{1, 2}, []int{2, 3}, nil, nil, false}, {[]int{5}, []int{5}, nil, nil, false},
		{from(0, 40), from(39, 40), nil, nil, false}, {from(0, 40), from(40, 40), nil, nil, true},
		{from(100, 40), append(from(50, 39), 139), nil, nil, false}, {from(100, 40), append(from(50, 39), 100), nil, nil, false},
		{[]int{7}, from(1, 40), nil, nil, false}, {from(1, 40), []int{20}, nil, nil, false},
		{[]int{1, 3}, []int{2, 4}, []int{1}, []int{2}, true},
		{[]int{1, 3}, []int{2, 4}, []int{3, 1, 3, 3}, []int{4, 4, 2}, true},
		{[]int{1, 3}, []int{2, 4}, []int{2}, nil, false}, {[]int{1, 3}, []int{2, 4}, nil, []int{3}, false},
		{[]int{1, 3}, []int{2, 4}, []int{1, 3, 4}, nil, false}, {[]int{1, 3}, []int{2, 4}, nil, []int{2, 4, 0}, false},
		{nil, []int{2}, []int{2}, nil, false}, {[]int{2}, nil, nil, []int{2}, false}, {nil, nil, []int{0}, nil, false}, {nil, nil, nil, []int{0}, false},
	} {
		s := api.Sheet{Game: in, HomeSquad: x.home, AwaySquad: x.away, HomeCards: shown(x.homeCards...), AwayCards: shown(x.awayCards...)}
		expect(t, sheet(s), x.ok)
		s.Game = cup
		expect(t, sheet(s), x.ok)
	}
}

// P7.1: penalties of leagues and of cups.
func TestPenalties(t *testing.T) {
	for home := -2; home <= 101; home++ {
		for away := -2; away <= 101; away++ {
			pens := api.Sheet{Game: in, HomePens: home, AwayPens: away}
			expect(t, sheet(pens), home == 0 && away == 0)
			pens.Game = cup
			// Goals have no effect on penalties, nor need they be equal.
			pens.HomeGoals = 3
			inRange := between(home, 0, 99) && between(away, 0, 99)
			expect(t, sheet(pens), inRange && home != away || home == 0 && away == 0)
		}
	}
}

// P7.1: a club that loses by forfeit belongs to the game.
func TestForfeits(t *testing.T) {
	for club := -2; club <= 200; club++ {
		expect(t, ruling(api.Ruling{Case: 1, Instance: 1, Kind: api.ForfeitR, Game: in, Club: club}), club == 5 || club == 7)
	}
}

// P7.1: kinds that are none; among the others, those that need no field to be set.
func TestKinds(t *testing.T) {
	for _, n := range append(edges(), from(-20, 60)...) {
		expect(t, api.Fact{Kind: n}, n == api.MoveF || n == api.VoidF)
		expect(t, ruling(api.Ruling{Case: 1, Instance: 1, Kind: n}), n == api.BanR || n == api.UnfitR || n == api.NothingR)
		for _, f := range samples() {
			g := f
			g.Kind = n
			// A fact that says nothing but zeros may be of either kind.
			zero := othersAreZero(f, "Kind Day Known") && (n == api.MoveF || n == api.VoidF)
			expect(t, g, n == f.Kind || zero)
		}
	}
}

// isOther reports whether the kind of the fact does not use the part with a path.
func isOther(f api.Fact, path string) bool {
	used := "Kind Day Known " + fieldOf[f.Kind]
	if f.Kind == api.RulingF {
		path = strings.TrimPrefix(path, "Ruling.")
		used = "Kind Day Known Case Instance " + fieldsOfRuling[f.Ruling.Kind]
	}
	field := strings.TrimRight(strings.Split(path, ".")[0], "[]+")
	return !slices.Contains(strings.Fields(used), field)
}

// P7.1: a field that the kind does not use is zero.
func TestOtherFieldsAreZero(t *testing.T) {
	for _, f := range samples() {
		tried := 0
		for _, c := range changes(f) {
			// An empty slice that is made shorter is still empty.
			if !isOther(f, c.path) || strings.HasSuffix(c.path, "-") {
				continue
			}
			tried++
			for _, n := range []int{1, -1, 5, 255} {
				g := f
				c.make(&g, n)
				expect(t, g, false)
			}
		}
		if tried < 30 {
			t.Errorf("only %d parts of %+v are not used", tried, f)
		}
	}
}

// P7.1, R3: nil and empty slices make no difference.
func TestNilAndEmpty(t *testing.T) {
	for _, f := range samples() {
		expect(t, copied(f), true)
	}
	for _, f := range invalid() {
		expect(t, copied(f), false)
	}
}

// P7.1: with each part of a fact changed, and with two, Check still decides as the chapter says.
func TestChangedFacts(t *testing.T) {
	r := rand.New(rand.NewPCG(7, 1))
	both := 0
	for _, f := range append(samples(), invalid()...) {
		all := changes(f)
		for _, c := range all {
			for _, n := range edges() {
				g := f
				c.make(&g, n)
				expect(t, g, valid(g))
				d := all[r.IntN(len(all))]
				// A change of an element may not fit any more after one of the length.
				if strings.HasSuffix(c.path, "-") || strings.HasPrefix(d.path, strings.TrimSuffix(c.path, "-")) {
					continue
				}
				d.make(&g, edges()[r.IntN(len(edges()))])
				expect(t, g, valid(g))
				if valid(g) {
					both++
				}
			}
		}
	}
	if both < 1000 {
		t.Errorf("only %d facts with two changes are valid", both)
	}
}

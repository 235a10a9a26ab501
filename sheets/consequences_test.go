package sheets_test

import (
	"math/rand/v2"
	"slices"
	"testing"

	"assize/api"
	"assize/facts"
	"assize/sheets"
)

// few has six facts, of which five are sheets of two games by both referees, one of which is corrected.
func few() []api.Fact {
	a, b := full(), variants()[0].s
	return []api.Fact{
		report(5, 5, 0, a), report(4, 6, 0, b), report(9, 5, 1, a), report(3, 5, 0, about(in, a)), report(3, 5, 1, about(in, b)),
		others(cup)[2],
	}
}

// said is all that the package says of some games.
type said struct {
	scores          []api.Score
	games, disputes []api.Game
}

func saidOf(l []api.Fact) (x said) {
	for _, g := range []api.Game{in, cup} {
		x.scores = append(x.scores, sheets.Score(l, g))
		for referee := range 2 {
			s, day, ok := sheets.Latest(l, g, referee)
			x.scores = append(x.scores, api.Score{Sheet: s, Day: day, Kind: map[bool]int{true: 1}[ok]})
		}
		x.games = append(x.games, sheets.Games(l, g.Season, g.Comp)...)
	}
	x.disputes = sheets.Disputes(l)
	return x
}

func (x said) equals(y said) bool {
	return slices.Equal(x.games, y.games) && slices.Equal(x.disputes, y.disputes) &&
		slices.EqualFunc(x.scores, y.scores, func(a, b api.Score) bool {
			return a.Kind == b.Kind && a.Day == b.Day && equal(a.Sheet, b.Sheet)
		})
}

// sequences yields every list of so many elements of l, with repetitions.
func sequences(l []api.Fact, many int, yield func(s []api.Fact)) {
	if many == 0 {
		yield(nil)
		return
	}
	sequences(l, many-1, func(s []api.Fact) {
		for _, f := range l {
			yield(append(slices.Clip(s), f))
		}
	})
}

// P9.4: every list of up to five of the facts, in any order and with any repetitions, says what its set says.
func TestOrderAndRepetition(t *testing.T) {
	l := few()
	var sets []said
	for bits := range 1 << len(l) {
		var part []api.Fact
		for i, f := range l {
			if bits>>i&1 == 1 {
				part = append(part, f)
			}
		}
		compareAll(t, part)
		sets = append(sets, saidOf(part))
	}
	for many := range 6 {
		sequences(l, many, func(s []api.Fact) {
			bits := 0
			for i, f := range l {
				if slices.ContainsFunc(s, func(g api.Fact) bool { return facts.Same(f, g) }) {
					bits |= 1 << i
				}
			}
			if x := saidOf(s); !x.equals(sets[bits]) {
				t.Errorf("of %+v: %+v, want %+v", s, x, sets[bits])
			}
		})
	}
}

// P9.4: drawn facts in other orders, and with repetitions.
func TestDrawnOrders(t *testing.T) {
	r := rand.New(rand.NewPCG(9, 6))
	for i := range 200 {
		l := drawn(r, i%50+1)
		want := saidOf(l)
		for range 5 {
			again := shuffled(r, append(slices.Clone(l), deepAll(l[:r.IntN(len(l))])...))
			if x := saidOf(again); !x.equals(want) {
				t.Errorf("of %d facts: %+v, want %+v", len(again), x, want)
			}
			slices.SortFunc(again, facts.Compare)
			if x := saidOf(again); !x.equals(want) {
				t.Errorf("of %d facts in order: %+v, want %+v", len(again), x, want)
			}
		}
	}
}

// P9.4: facts of other kinds, and about other games, have no effect on a score.
func TestOtherFacts(t *testing.T) {
	r := rand.New(rand.NewPCG(9, 7))
	kinds := map[int]bool{}
	for range 200 {
		g := games()[r.IntN(len(games()))]
		l := slices.DeleteFunc(drawn(r, 60), func(f api.Fact) bool { return f.Sheet.Game != g || !isSheet(f) })
		want := sheets.Score(l, g)
		kinds[want.Kind] = true
		all := slices.Clone(l)
		for _, other := range games() {
			all = append(all, others(other)...)
			if other != g {
				all = append(all, report(lastDay, lastDay, r.IntN(2), about(other, full())))
			}
		}
		expectScore(t, shuffled(r, all), g, want)
		for _, f := range all[len(l):] {
			expectScore(t, with(l, r.IntN(len(l)+1), f), g, want)
		}
	}
	if len(kinds) < 4 {
		t.Errorf("the kinds of scores are %v", kinds)
	}
}

// P9.4: a further sheet of a referee that is known later prevails; if it says the same as the one of the other referee,
// the game is agreed, and otherwise disputed.
func TestFurtherSheets(t *testing.T) {
	r := rand.New(rand.NewPCG(9, 8))
	alone := 0
	for i := range 300 {
		l := slices.DeleteFunc(drawn(r, i%60), func(f api.Fact) bool { return f.Known == lastDay })
		f := drawnSheet(r)
		f.Known = 5 + lastDay/2
		for day := range 3 {
			f.Day = day * lastDay / 2
			g := f.Sheet.Game
			all := with(l, r.IntN(len(l)+1), f)
			expectLatest(t, all, g, f.Sheet.Referee, f.Sheet, f.Day, true)
			s, day, ok := sheets.Latest(l, g, 1-f.Sheet.Referee)
			if !ok {
				alone++
				expectScore(t, all, g, api.Score{Kind: api.OneS, Sheet: f.Sheet, Day: f.Day})
				continue
			}
			want := api.Score{Kind: api.DisputeS, Day: max(f.Day, day)}
			if sheets.Same(f.Sheet, s) {
				want.Kind, want.Sheet = api.AgreedS, s
				want.Sheet.Referee = 0
			}
			expectScore(t, all, g, want)
			f.Sheet = s
			f.Sheet.Referee = 1 - s.Referee
			all = with(l, r.IntN(len(l)+1), f)
			expectLatest(t, all, g, f.Sheet.Referee, f.Sheet, f.Day, true)
			s.Referee = 0
			expectScore(t, all, g, api.Score{Kind: api.AgreedS, Sheet: s, Day: max(f.Day, day)})
		}
	}
	if alone < 100 || alone > 800 {
		t.Errorf("%d further sheets of 900 are alone", alone)
	}
}

// P9.4: the disputes are games of which there are sheets of both referees. They are those whose score is one, and they are
// among the games of their competitions.
func TestDisputesHaveBothSheets(t *testing.T) {
	r := rand.New(rand.NewPCG(9, 9))
	many := 0
	for i := range 200 {
		l := drawn(r, i)
		x := sheets.Disputes(l)
		many += len(x)
		for _, g := range x {
			for referee := range 2 {
				if s, _, ok := sheets.Latest(l, g, referee); !ok || s.Game != g || s.Referee != referee {
					t.Errorf("the dispute %+v has no sheet of the referee %d", g, referee)
				}
			}
			if !slices.Contains(sheets.Games(l, g.Season, g.Comp), g) {
				t.Errorf("the dispute %+v is no game", g)
			}
		}
		for _, g := range games() {
			if isDispute := sheets.Score(l, g).Kind == api.DisputeS; isDispute != slices.Contains(x, g) {
				t.Errorf("Score(%+v): a dispute %t; disputes %+v", g, isDispute, x)
			}
			if isNone := sheets.Score(l, g).Kind == api.NoneS; isNone == slices.Contains(sheets.Games(l, g.Season, g.Comp), g) {
				t.Errorf("Score(%+v): none %t", g, isNone)
			}
		}
	}
	if many < 300 {
		t.Errorf("only %d disputes", many)
	}
}

package rulings_test

import (
	"math"
	"math/rand/v2"
	"slices"
	"testing"

	"assize/api"
	"assize/facts"
	"assize/rulings"
)

// expectDecides reports an error unless the ruling of a fact is the one about its game, in whatever order the facts are given.
func expectDecides(t *testing.T, f api.Fact, l ...api.Fact) {
	t.Helper()
	for at := range len(l) + 1 {
		all := with(l, at, f)
		expectOfGame(t, all, f.Ruling.Game, f.Ruling, f.Day, true)
		slices.Reverse(all)
		expectOfGame(t, all, f.Ruling.Game, f.Ruling, f.Day, true)
	}
}

func interval(from, to int) api.Interval { return api.Interval{From: from, To: to} }

// P10.3: the examples of the chapter.
func TestExamplesOfSubjects(t *testing.T) {
	for _, l := range [][]api.Fact{nil, {}} {
		expectOfGame(t, l, in, api.Ruling{}, 0, false)
		expectOfGame(t, l, api.Game{}, api.Ruling{}, 0, false)
		expectPoints(t, l, 0, 0, 0, 0)
		expectBans(t, l, 0)
	}
	expectPoints(t, []api.Fact{ruled(5, 5, 1, 1, points(4, 2, 5, 3)), ruled(5, 5, 2, 1, points(4, 2, 5, 2))}, 4, 2, 5, 5)
	expectBans(t, []api.Fact{ruled(5, 5, 1, 1, ban(5, 3, 5)), ruled(5, 5, 2, 1, ban(5, 6, 9))}, 5, interval(3, 9))
}

// P10.3: a ruling of any kind, alone: only those of three kinds decide their games, and only games that are the same in
// everything are decided. The rulings of the other kinds are about no game, not even about the zero one.
func TestKindsOfGame(t *testing.T) {
	for _, r := range pool() {
		f := ruled(8, 9, 7, 2, r)
		decides := r.Kind == api.ForfeitR || r.Kind == api.AnnulR || r.Kind == api.ScoreR
		for _, g := range append(games(), impossible()...) {
			if decides && g == r.Game {
				expectOfGame(t, []api.Fact{f}, g, f.Ruling, 8, true)
			} else {
				expectOfGame(t, []api.Fact{f}, g, api.Ruling{}, 0, false)
			}
		}
	}
}

// P10.3: the day is the Day of the fact, whenever it was known.
func TestDayOfGame(t *testing.T) {
	for _, day := range []int{0, 1, 9, lastDay} {
		for _, known := range []int{0, 1, 9, lastDay} {
			f := ruled(day, known, 7, 1, score(in, 2, 1))
			expectOfGame(t, []api.Fact{f}, in, f.Ruling, day, true)
		}
	}
}

// P10.3: several rulings about one game in different cases: the last one in canonical order, by Known, by Day, and by the
// encodings, in which the case is first, where 100 is less than 10, and 10 is less than 1. The instance is irrelevant.
func TestCasesOfOneGame(t *testing.T) {
	l := []api.Fact{
		ruled(lastDay, 0, 9, 3, annul(in)), ruled(9, 5, 8, 2, score(in, 9, 9)), ruled(0, 6, 11, 3, forfeit(in, 5)),
		ruled(1, 6, 12, 1, annul(in)), ruled(3, 6, 100, 1, annul(in)), ruled(3, 6, lastCase, 1, annul(in)),
		ruled(3, 6, 10, 3, score(in, 0, 0)), ruled(3, 6, 1, 2, annul(in)), ruled(3, 6, 2, 1, forfeit(in, 7)), ruled(3, 6, 7, 1, annul(in)),
		ruled(10, 6, 4, 1, annul(in)), ruled(2, 10, 5, 1, forfeit(in, 7)), ruled(0, lastDay, 6, 1, score(in, 0, 99)),
	}
	if !slices.IsSortedFunc(l, facts.Compare) {
		t.Error("the facts are not in canonical order")
	}
	r := rand.New(rand.NewPCG(10, 7))
	for i, f := range l {
		for _, early := range l[:i] {
			expectDecides(t, f, early)
		}
		for range 10 {
			all := slices.Concat(shuffled(r, l[:i+1]), l[:r.IntN(i+1)], others(l...))
			expectOfGame(t, shuffled(r, all), in, f.Ruling, f.Day, true)
		}
	}
}

// P10.3: rulings that are void, suspended, or of a lower instance decide no game, also if they are the last ones.
func TestGamesWithoutRuling(t *testing.T) {
	early, late := ruled(5, 5, 7, 1, score(in, 1, 0)), ruled(9, 9, 8, 1, score(in, 0, 1))
	expectDecides(t, late, early)
	expectDecides(t, early, ruled(0, 6, 7, 1, annul(in)))
	suspends, keeps := appealed(0, 0, 8, 1, true), appealed(0, 0, 8, 1, false)
	expectDecides(t, late, early, keeps)
	expectDecides(t, early, late, suspends, keeps)
	expectOfGame(t, []api.Fact{suspends, late}, in, api.Ruling{}, 0, false)
	for _, r := range kinds() {
		if r.Game == in {
			r.Game = games()[1]
			r.Club = min(r.Club, 5)
		}
		second := ruled(0, 0, 8, 2, r)
		expectDecides(t, early, late, second)
		expectOfGame(t, []api.Fact{suspends, late, second}, in, api.Ruling{}, 0, false)
	}
	expectDecides(t, early, late, ruled(4, 4, 8, 3, annul(in)))
	expectDecides(t, ruled(10, 0, 8, 2, forfeit(in, 5)), late, suspends)
}

// P10.3: the points of several clubs, seasons and competitions.
func TestPoints(t *testing.T) {
	var l []api.Fact
	places := [][3]int{{4, 2, 5}, {5, 2, 5}, {4, 3, 5}, {4, 2, 7}, {2, 4, 5}, {4, 5, 2}, {0, 0, 0}, {63, 15, 191}, {4, 10, 5}}
	for i, p := range places {
		for n := range i + 1 {
			l = append(l, ruled(n, i, 100*i+n+1, 1+n%3, points(p[0], p[1], p[2], 99-i)))
		}
	}
	for _, r := range kinds() {
		if r.Kind != api.PointsR {
			l = append(l, ruled(5, 5, 2000+r.Kind, 1, r))
		}
	}
	for i, p := range places {
		expectPoints(t, l, p[0], p[1], p[2], (i+1)*(99-i))
		expectPoints(t, l, p[0], p[1], p[2]+1, 0)
		expectPoints(t, l, p[0]+1, p[1], p[2]+1, 0)
	}
	// The third place has the cases 201 to 203, of the instances 1 to 3: the second one is suspended, and one is void.
	l = append(l, appealed(9, 9, 202, 2, true), ruled(9, 9, 203, 3, points(4, 3, 5, 1)), appealed(9, 9, 201, 1, false))
	expectPoints(t, l, 4, 3, 5, 2*97)
	l = append(l, ruled(9, 9, 202, 3, points(4, 3, 5, 1)), ruled(9, 9, 201, 2, nothing()))
	expectPoints(t, l, 4, 3, 5, 97+1)
}

// P10.3: the most points: more cases than a ledger has facts, and the same ruling given many times.
func TestMostPoints(t *testing.T) {
	var l []api.Fact
	for i := range mostFacts + 1 {
		l = append(l, ruled(i, i, i+1, 1+i%3, points(63, 7, 191, 99)))
	}
	if n := rulings.Points(l, 63, 7, 191); n != 99*(mostFacts+1) {
		t.Errorf("Points = %d", n)
	}
	if n := rulings.Points(slices.Repeat(l[:2], mostFacts), 63, 7, 191); n != 2*99 {
		t.Errorf("Points of two cases = %d", n)
	}
}

// P10.3: bans whose days touch, overlap, lie apart or are the same, in any order, and bans of other clubs.
func TestBans(t *testing.T) {
	last := lastDay
	for _, x := range []struct{ days, want []api.Interval }{
		{[]api.Interval{{From: 3, To: 5}}, []api.Interval{{From: 3, To: 5}}},
		{[]api.Interval{{From: 3, To: 5}, {From: 7, To: 9}}, []api.Interval{{From: 3, To: 5}, {From: 7, To: 9}}},
		{[]api.Interval{{From: 3, To: 5}, {From: 6, To: 9}}, []api.Interval{{From: 3, To: 9}}},
		{[]api.Interval{{From: 3, To: 5}, {From: 5, To: 9}}, []api.Interval{{From: 3, To: 9}}},
		{[]api.Interval{{From: 3, To: 8}, {From: 5, To: 9}}, []api.Interval{{From: 3, To: 9}}},
		{[]api.Interval{{From: 3, To: 9}, {From: 5, To: 6}}, []api.Interval{{From: 3, To: 9}}},
		{[]api.Interval{{From: 3, To: 9}, {From: 3, To: 9}}, []api.Interval{{From: 3, To: 9}}},
		{[]api.Interval{{From: 3, To: 3}, {From: 5, To: 5}, {From: 4, To: 4}}, []api.Interval{{From: 3, To: 5}}},
		{[]api.Interval{{From: 10, To: 20}, {From: 9, To: 9}, {From: 100, To: 100}}, []api.Interval{{From: 9, To: 20}, {From: 100, To: 100}}},
		{[]api.Interval{{}, {From: last, To: last}}, []api.Interval{{}, {From: last, To: last}}},
		{[]api.Interval{{From: 0, To: last}, {From: 5, To: 6}}, []api.Interval{{From: 0, To: last}}},
	} {
		r := rand.New(rand.NewPCG(10, 8))
		for range 10 {
			var l []api.Fact
			for i, days := range x.days {
				l = append(l, ruled(days.From, i, 1+i*9, 1+i%3, ban(5, days.From, days.To)))
			}
			l = append(l, ruled(5, 5, 8, 1, ban(4, 4, 6)), ruled(5, 5, 9, 1, ban(0, 0, last)), ruled(5, 5, 11, 1, unfit(5, 4, 6)), ruled(5, 5, 12, 1, fine(5, 5)))
			l = shuffled(r, append(l, l[r.IntN(len(l))]))
			expectBans(t, l, 5, x.want...)
			expectBans(t, l, 4, interval(4, 6))
			expectBans(t, l, 0, interval(0, last))
			expectBans(t, l, 7)
		}
	}
}

// P10.3: bans that are void, suspended or of a lower instance.
func TestBansWithoutEffect(t *testing.T) {
	l := []api.Fact{ruled(5, 5, 7, 1, ban(5, 3, 5)), ruled(6, 6, 7, 1, ban(5, 20, 30)), ruled(5, 5, 8, 1, ban(5, 10, 12))}
	expectBans(t, l, 5, interval(3, 5), interval(10, 12))
	l = append(l, appealed(5, 5, 8, 1, true))
	expectBans(t, l, 5, interval(3, 5))
	l = append(l, ruled(5, 5, 7, 2, ban(5, 4, 4)))
	expectBans(t, l, 5, interval(4, 4))
	l = append(l, ruled(0, 0, 8, 3, ban(5, 5, 5)))
	expectBans(t, l, 5, interval(4, 5))
	expectBans(t, append(l, ruled(5, 5, 7, 3, ban(7, 4, 4))), 5, interval(5, 5))
	expectBans(t, append(l, ruled(5, 5, 7, 3, nothing())), 5, interval(5, 5))
}

// P10.3: games, seasons, competitions and clubs that no fact can have, also if facts that are not valid have them.
func TestImpossibleSubjects(t *testing.T) {
	l := []api.Fact{ruled(5, 5, 1, 1, points(4, 2, 5, 3)), ruled(5, 5, 2, 1, ban(5, 3, 5)), ruled(5, 5, 3, 1, nothing())}
	for i, g := range impossible() {
		l = append(l, ruled(5, 5, 10+i, 1, annul(g)), ruled(5, 5, 30+i, 1, score(g, 1, 1)), ruled(5, 5, 50+i, 1, forfeit(g, g.Home)))
		expectOfGame(t, l, g, api.Ruling{}, 0, false)
	}
	seasons, comps, clubs := []int{-1, 64, math.MaxInt}, []int{-1, 16, math.MaxInt}, []int{-1, 192, math.MaxInt}
	// Some of these end with the same bits as numbers of facts that count.
	for _, n := range []int{math.MinInt, -256, 256, 1 << 32} {
		seasons, comps, clubs = append(seasons, n, n+4), append(comps, n, n+2), append(clubs, n, n+5)
	}
	for i := range seasons {
		for k, x := range [][3]int{{seasons[i], 2, 5}, {4, comps[i], 5}, {4, 2, clubs[i]}, {seasons[i], comps[i], clubs[i]}} {
			l = append(l, ruled(5, 5, 100+10*i+k, 1, points(x[0], x[1], x[2], 3)))
			expectPoints(t, l, x[0], x[1], x[2], 0)
		}
		l = append(l, ruled(5, 5, 200+i, 1, ban(clubs[i], 3, 5)))
		expectBans(t, l, clubs[i])
	}
	expectPoints(t, l, 4, 2, 5, 3)
	expectBans(t, l, 5, interval(3, 5))
	expectOfGame(t, l, in, api.Ruling{}, 0, false)
}

// P10.3: facts that are not valid are ignored, at the beginning, in the middle and at the end: they decide no game, take no
// points and ban no club, they suspend nothing, and they are neither the last instance nor known earlier.
func TestSubjectsWithDamagedFacts(t *testing.T) {
	l := []api.Fact{ruled(5, 5, 7, 1, score(in, 1, 0)), ruled(5, 5, 8, 1, points(4, 2, 5, 3)), ruled(5, 5, 9, 1, ban(5, 3, 5))}
	for _, r := range kinds() {
		for number := 6; number <= 9; number++ {
			for _, d := range slices.Concat(damaged(ruled(9, 9, number, 2, r)), damaged(ruled(0, 0, number, 1, r)), damaged(appealed(5, 5, number, 1, true))) {
				expectOfGame(t, []api.Fact{d}, in, api.Ruling{}, 0, false)
				expectPoints(t, []api.Fact{d}, 4, 2, 5, 0)
				expectBans(t, []api.Fact{d}, 5)
				for _, at := range []int{0, 2, 3} {
					all := with(l, at, d)
					expectOfGame(t, all, in, l[0].Ruling, 5, true)
					expectPoints(t, all, 4, 2, 5, 3)
					expectBans(t, all, 5, interval(3, 5))
				}
			}
		}
	}
}

// P10.3: drawn facts of all kinds, damaged and repeated ones, as the definition says.
func TestDrawnSubjects(t *testing.T) {
	r := rand.New(rand.NewPCG(10, 9))
	found := map[int]int{}
	for i := range 150 {
		l := drawn(r, i%60)
		compareSubjects(t, l)
		for _, f := range inForceOf(counted(l)) {
			found[f.Ruling.Kind]++
		}
	}
	for kind := 1; kind <= 8; kind++ {
		if found[kind] < 10 {
			t.Errorf("only %d rulings in force of the kind %d", found[kind], kind)
		}
	}
}

package facts_test

import (
	"math"
	"math/rand/v2"
	"slices"
	"strings"
	"testing"

	"assize/api"
	"assize/facts"
)

// redated has the fact on other days.
func redated(f api.Fact, day, known int) api.Fact {
	f.Day, f.Known = day, known
	return f
}

// mixed has facts on several days, valid and not valid, all of them different.
func mixed() (l []api.Fact) {
	l = append(samples(), invalid()...)
	for _, f := range []api.Fact{move(api.Move{Player: 5, To: 2}), ruling(rulings()[0]), sheet(leagueSheet()), move(api.Move{To: -2}), {}} {
		for _, day := range []int{math.MinInt, -1, 3, 8, 11, api.MaxDay, api.MaxDay + 1, math.MaxInt} {
			l = append(l, redated(f, day, 10), redated(f, 9, day), redated(f, day, 77))
		}
	}
	// The encodings of these are compared at different places; a greater number may have the lesser encoding.
	for _, n := range []int{1, 2, 9, 10, 11, 19, 20, 99, 100, 190} {
		l = append(l, move(api.Move{Player: n, To: 77}), move(api.Move{Player: 77, To: n}), fixture(api.Fixture{Game: in, Venue: n}),
			entrants(api.Entrants{Clubs: from(n, 2), Rules: strings.Repeat("b", 1+n/10)}))
	}
	return l
}

// P7.3: Compare of every two facts, valid or not.
func TestCompare(t *testing.T) {
	all := mixed()
	less := 0
	for _, a := range all {
		for _, b := range all {
			n := facts.Compare(a, copied(b))
			if n != compareOf(a, b) {
				t.Errorf("Compare(%+v, %+v) = %d", a, b, n)
			}
			if n < 0 {
				less++
			}
		}
	}
	if less < len(all)*(len(all)-1)*2/5 {
		t.Errorf("only %d pairs of %d facts are in order", less, len(all))
	}
}

// P7.3: what decides, one after the other, and the encodings byte by byte.
func TestOrder(t *testing.T) {
	of := func(known, day int, f api.Fact) api.Fact { return redated(f, day, known) }
	in := func(player int) api.Fact { return api.Fact{Kind: api.MoveF, Move: api.Move{Player: player}} }
	for i, x := range []struct {
		a, b api.Fact
		want int
	}{
		{of(1, 9, in(5)), of(2, 3, in(1)), -1}, {of(2, 3, in(1)), of(1, 9, in(5)), 1},
		{of(1, 3, in(5)), of(1, 4, in(1)), -1}, {of(9, 3, in(5)), of(10, 3, in(5)), -1}, {of(1, 9, in(5)), of(1, 10, in(5)), -1},
		{of(1, 3, api.Fact{Kind: api.VoidF}), of(1, 3, in(1)), 1}, {of(1, 3, in(1)), of(1, 3, api.Fact{Kind: api.VoidF}), -1},
		{in(5), in(5), 0}, {in(5), in(6), -1},
		// i10e is less than i9e, and greater than i1e, because e comes after the digits.
		{in(10), in(9), -1}, {in(10), in(1), -1}, {in(100), in(10), -1}, {in(19), in(2), -1},
		// -1 comes before all digits.
		{api.Fact{Kind: api.MoveF, Move: api.Move{To: -1}}, in(0), -1},
		// A fact that is not valid has no bytes, whatever is in it.
		{in(9000), in(0), -1}, {in(9000), in(-1), 0}, {in(8192), api.Fact{Kind: api.MoveF, Lot: api.Lot{Comp: 99}}, 0},
		{api.Fact{}, api.Fact{Void: digestOf(1)}, 0}, {api.Fact{}, api.Fact{Kind: 1}, -1}, {api.Fact{Kind: -1}, api.Fact{}, -1},
		{of(math.MinInt, 0, in(1)), of(math.MaxInt, 0, in(1)), -1}, {of(0, math.MaxInt, in(1)), of(0, math.MinInt, in(1)), 1},
		{api.Fact{Kind: math.MinInt}, api.Fact{Kind: math.MaxInt}, -1},
		// Texts of fewer bytes have the lesser length in front, apart from 10 and more.
		{entrants(api.Entrants{Clubs: from(0, 2), Rules: "z"}), entrants(api.Entrants{Clubs: from(0, 2), Rules: "aa"}), -1},
		{entrants(api.Entrants{Clubs: from(0, 2), Rules: "aaaaaaaaaa"}), entrants(api.Entrants{Clubs: from(0, 2), Rules: "aa"}), -1},
		// The list that goes on has another number where the shorter one ends.
		{sheet(api.Sheet{Game: cup, HomeSquad: []int{1, 2}}), sheet(api.Sheet{Game: cup, HomeSquad: []int{1}}), 1},
		{void(digestOf(200)), void(digestOf(100)), 1},
	} {
		if n := facts.Compare(x.a, x.b); n != x.want {
			t.Errorf("%d: Compare(%+v, %+v) = %d, want %d", i, x.a, x.b, n, x.want)
		}
		if n := facts.Compare(x.b, x.a); n != -x.want {
			t.Errorf("%d: Compare(%+v, %+v) = %d, want %d", i, x.b, x.a, n, -x.want)
		}
	}
}

// P7.4: Compare is a total order: of valid facts, only equal ones are alike, and facts have one order, however they
// were arranged before.
func TestTotalOrder(t *testing.T) {
	all := slices.DeleteFunc(mixed(), func(f api.Fact) bool { return facts.Check(f) != api.OK })
	for _, a := range all {
		for _, b := range all {
			if (facts.Compare(a, b) == 0) != sameOf(a, b) || facts.Compare(a, b) != -facts.Compare(b, a) {
				t.Errorf("Compare(%+v, %+v) = %d", a, b, facts.Compare(a, b))
			}
		}
	}
	slices.SortFunc(all, facts.Compare)
	for i := range all {
		for k := range i {
			if facts.Compare(all[k], all[i]) != -1 {
				t.Errorf("%+v does not come before %+v", all[k], all[i])
			}
		}
	}
	r := rand.New(rand.NewPCG(7, 3))
	for range 20 {
		again := slices.Clone(all)
		r.Shuffle(len(again), func(i, k int) { again[i], again[k] = again[k], again[i] })
		slices.SortFunc(again, facts.Compare)
		if !slices.EqualFunc(all, again, sameOf) {
			t.Error("the same facts have two orders")
		}
	}
}

// P7.3: a fact equals itself and its copies, valid or not, and nothing else.
func TestSame(t *testing.T) {
	all := mixed()
	for i, a := range all {
		for k, b := range all {
			if same := facts.Same(a, copied(b)); same != (i == k) || same != sameOf(a, b) {
				t.Errorf("Same(%+v, %+v) = %t", a, b, same)
			}
		}
	}
}

// full has a fact in which nothing is empty, so that each element can be changed.
func full() api.Fact {
	f := sheet(cupSheet())
	f.Entrants = api.Entrants{Season: 1, Comp: 2, Clubs: []int{3, 4}, Rules: "a"}
	f.Fixture = api.Fixture{Game: in, Venue: 3}
	f.Ruling = rulings()[0]
	f.Appeal, f.Move = api.Appeal{Case: 1, Instance: 1, Suspends: true}, api.Move{Player: 1, To: 2}
	f.Lot, f.Void = api.Lot{Season: 1, Comp: 2, Order: []int{6, 5}}, digestOf(1)
	return f
}

// P7.3: facts that differ in one part are different, and those whose slices are nil or empty are not.
func TestSameOfChangedFacts(t *testing.T) {
	for _, f := range append(mixed(), full()) {
		if !facts.Same(f, f) || !facts.Same(f, copied(f)) || !facts.Same(copied(f), f) {
			t.Errorf("%+v is not the same as its copy", f)
		}
		changed := 0
		for _, c := range changes(f) {
			for _, n := range []int{-3, 0, 1, 1 << 32, math.MinInt} {
				g := f
				c.make(&g, n)
				if same := sameOf(f, g); facts.Same(f, g) != same || facts.Same(g, f) != same {
					t.Errorf("Same(%+v, %+v) is %t, with another %s", f, g, !same, c.path)
				} else if !same {
					changed++
				}
			}
		}
		if changed < 100 {
			t.Errorf("only %d changes of %+v have an effect", changed, f)
		}
	}
}

// P7.3: the order of elements counts.
func TestSameOfReversedSlices(t *testing.T) {
	f := full()
	for _, turn := range []func(f *api.Fact){
		func(f *api.Fact) { slices.Reverse(f.Entrants.Clubs) }, func(f *api.Fact) { slices.Reverse(f.Lot.Order) },
		func(f *api.Fact) { slices.Reverse(f.Sheet.HomeSquad) }, func(f *api.Fact) { slices.Reverse(f.Sheet.AwaySquad) },
		func(f *api.Fact) {
			f.Sheet.HomeCards[0], f.Sheet.HomeCards[1] = f.Sheet.HomeCards[1], f.Sheet.HomeCards[0]
		},
		func(f *api.Fact) { f.Sheet.AwayCards[0].Red = false },
		func(f *api.Fact) { f.Sheet.HomeCards, f.Sheet.AwayCards = f.Sheet.AwayCards, f.Sheet.HomeCards },
		func(f *api.Fact) { f.Sheet.HomeSquad, f.Sheet.AwaySquad = f.Sheet.AwaySquad, f.Sheet.HomeSquad },
		func(f *api.Fact) { f.Sheet.HomeSquad, f.Entrants.Clubs = f.Entrants.Clubs, f.Sheet.HomeSquad },
		func(f *api.Fact) { f.Void[0], f.Void[31] = f.Void[31], f.Void[0] },
	} {
		g := copied(f)
		turn(&g)
		if facts.Same(f, g) || facts.Same(g, f) {
			t.Errorf("%+v and %+v are the same", f, g)
		}
	}
}

// P7.4: equal facts have equal identifiers, whether their slices are nil or empty; Decode of Encode is the fact.
func TestConsequences(t *testing.T) {
	for _, f := range mixed() {
		a, e := facts.ID(f)
		b, _ := facts.ID(copied(f))
		if a != b || (e == api.OK) != valid(f) {
			t.Errorf("%+v has the identifiers %x and %x, %d", f, a, b, e)
		}
		if e != api.OK {
			continue
		}
		bytes, _ := facts.Encode(f)
		back(t, f, bytes)
		g, _ := facts.Decode(bytes)
		if c, e := facts.ID(g); c != a || e != api.OK || facts.Compare(f, g) != 0 {
			t.Errorf("%+v has become %+v", f, g)
		}
		if again, _ := facts.Encode(g); string(again) != string(bytes) {
			t.Errorf("%q has become %q", bytes, again)
		}
	}
}

package ledger_test

import (
	"math/rand/v2"
	"slices"
	"testing"

	"assize/api"
	"assize/ledger"
)

// expectView reports an error unless the facts in force are these.
func expectView(t *testing.T, x api.Ledger, day, known int, want ...api.Fact) {
	t.Helper()
	if l, e := ledger.View(x, day, known); e != api.OK || !sameFacts(l, want) {
		t.Errorf("View(%d facts, %d, %d) = %d facts, %d, want %d", len(x.Facts), day, known, len(l), e, len(want))
	}
}

// P8.3: the examples of the chapter, and example 1 of the document.
func TestExamplesOfViews(t *testing.T) {
	for _, x := range []struct{ day, known int }{{-1, 0}, {0, -1}, {lastDay + 1, 0}, {0, lastDay + 1}, {-1, -1}} {
		if l, e := ledger.View(api.Ledger{}, x.day, x.known); e != api.ErrArg || l != nil {
			t.Errorf("View(the empty ledger, %d, %d) = %+v, %d", x.day, x.known, l, e)
		}
	}
	x := mustNew(t, pool()...)
	for _, known := range []int{lastDay + 1, -1} {
		if y, e := ledger.Known(x, known); e != api.ErrArg || y.Facts != nil {
			t.Errorf("Known(%d) = %d facts, %d", known, len(y.Facts), e)
		}
	}
	if l, e := ledger.Missing(x, x); e != api.OK || len(l) != 0 {
		t.Errorf("Missing of a ledger and itself = %x, %d", l, e)
	}
	sheet := on(10, 20, kinds()[2])
	x = mustNew(t, sheet, on(30, 30, voidOf(sheet)))
	expectView(t, x, 10, 19)
	expectView(t, x, 10, 20, sheet)
	expectView(t, x, 10, 29, sheet)
	expectView(t, x, 10, 30)
	expectView(t, x, 9, 20)
	expectView(t, x, 30, 29, sheet)
	expectView(t, x, 30, 30)
}

// P8.3: nothing is known, and nothing is in force, of an empty ledger.
func TestViewsOfNothing(t *testing.T) {
	for _, x := range []api.Ledger{{}, of([]api.Fact{}...)} {
		for _, day := range []int{0, 1, lastDay} {
			y, e := ledger.Known(x, day)
			l, other := ledger.View(x, day, lastDay-day)
			if e != api.OK || other != api.OK || len(y.Facts) != 0 || len(l) != 0 {
				t.Errorf("Known = %+v, %d, View = %+v, %d", y, e, l, other)
			}
		}
	}
	if l, e := ledger.Missing(api.Ledger{}, api.Ledger{}); e != api.OK || len(l) != 0 {
		t.Errorf("Missing = %x, %d", l, e)
	}
}

// P8.3: a fact of each kind, with the days before, on and after its Day and its Known. A VoidF is known, and never in force.
func TestDaysOfViews(t *testing.T) {
	for _, f := range kinds() {
		for _, at := range []struct{ day, known int }{{0, 0}, {5, 5}, {3, 7}, {7, 3}, {lastDay, 0}, {0, lastDay}, {lastDay, lastDay}} {
			f = on(at.day, at.known, f)
			x := mustNew(t, f)
			for _, known := range []int{0, 1, at.known - 1, at.known, at.known + 1, lastDay} {
				known = min(max(known, 0), lastDay)
				y, e := ledger.Known(x, known)
				if isKnown := known >= at.known; e != api.OK || isKnown != (len(y.Facts) == 1) {
					t.Errorf("Known(a fact known on %d, %d) = %d facts, %d", at.known, known, len(y.Facts), e)
				}
				for _, day := range []int{0, 1, at.day - 1, at.day, at.day + 1, lastDay} {
					day = min(max(day, 0), lastDay)
					var want []api.Fact
					if day >= at.day && known >= at.known && f.Kind != api.VoidF {
						want = []api.Fact{f}
					}
					expectView(t, x, day, known, want...)
				}
			}
		}
	}
}

// P8.3: facts that are voided before, on and after a day, whatever the Day of the VoidF is.
func TestVoids(t *testing.T) {
	f, g := on(5, 5, move(1)), on(5, 5, move(2))
	for _, day := range []int{0, 4, 5, 6, lastDay} {
		v := voidOf(f)
		// Recorded later, on the same day, and before the fact itself.
		expectView(t, mustNew(t, f, g, on(day, 8, v)), 5, 7, f, g)
		expectView(t, mustNew(t, f, g, on(day, 8, v)), 5, 8, g)
		expectView(t, mustNew(t, f, g, on(day, 8, v)), 5, 9, g)
		expectView(t, mustNew(t, f, g, on(day, 8, v)), lastDay, lastDay, g)
		expectView(t, mustNew(t, f, g, on(day, 5, v)), 5, 5, g)
		expectView(t, mustNew(t, f, g, on(day, 0, v)), 5, 5, g)
		expectView(t, mustNew(t, f, g, on(day, 0, v)), 5, 4)
		expectView(t, mustNew(t, f, g, on(day, lastDay, v)), 5, lastDay-1, f, g)
		expectView(t, mustNew(t, f, g, on(day, lastDay, v)), 5, lastDay, g)
		// Twice, and both facts.
		expectView(t, mustNew(t, f, g, on(day, 8, v), on(day, 9, v)), 5, 8, g)
		expectView(t, mustNew(t, f, g, on(day, 8, v), on(day, 9, v)), 5, 9, g)
		expectView(t, mustNew(t, f, g, on(day, 8, v), on(day, 9, voidOf(g))), 5, 9)
	}
}

// P8.3: a VoidF cannot be voided, and one that names no fact of the ledger has no effect until that fact comes.
func TestVoidsOfVoidsAndOfNothing(t *testing.T) {
	f := on(5, 5, move(1))
	v := on(5, 6, voidOf(f))
	w := on(5, 7, voidOf(v))
	u := on(5, 8, voidOf(w))
	expectView(t, mustNew(t, f, v, w, u), 5, 9)
	expectView(t, mustNew(t, f, v, w, u), 5, 5, f)
	expectView(t, mustNew(t, f, v, w), 5, 7)
	expectView(t, mustNew(t, f, w), 5, 9, f)
	expectView(t, mustNew(t, v, w, u), 9, 9)
	for _, g := range []api.Fact{on(5, 5, move(2)), on(5, 4, move(1)), on(4, 5, move(1)), on(5, 5, kinds()[0]), v, on(9, 9, v)} {
		expectView(t, mustNew(t, f, on(5, 6, voidOf(g))), 9, 9, f)
	}
	expectView(t, mustNew(t, f, on(5, 6, api.Fact{Kind: api.VoidF})), 9, 9, f)
	// Facts of all kinds are voided, apart from those of the last one.
	for _, k := range kinds() {
		k = on(2, 2, k)
		x := mustNew(t, f, k, on(3, 3, voidOf(k)))
		expectView(t, x, 9, 9, f)
		if k.Kind != api.VoidF {
			expectView(t, x, 9, 2, k)
		}
	}
}

// P8.3: ledgers of facts of all kinds, with VoidFs, on all days; days that are none are ErrArg.
func TestViewsOfThePool(t *testing.T) {
	x := mustNew(t, pool()...)
	inForce := map[int]int{}
	for _, known := range days() {
		compareKnown(t, x, known)
		for _, day := range days() {
			compareView(t, x, day, known)
			l, _ := viewOf(x, day, known)
			inForce[len(l)]++
		}
	}
	if len(inForce) < 8 {
		t.Errorf("the views of the pool hardly differ: %v", inForce)
	}
}

// P8.3: drawn ledgers.
func TestDrawnViews(t *testing.T) {
	r := rand.New(rand.NewPCG(8, 5))
	all := pool()
	for range 1000 {
		a, b := drawn(r, all), drawn(r, all)
		day, known := days()[r.IntN(len(days()))], days()[r.IntN(len(days()))]
		compareKnown(t, a, known)
		compareView(t, a, day, known)
		compareView(t, a, 3, r.IntN(7))
		compareMissing(t, a, b)
	}
}

// P8.3: of a ledger that is not valid, its error comes first, whatever the days are.
func TestErrorsOfViews(t *testing.T) {
	for _, f := range faults() {
		for _, day := range []int{-1, 0, 5, lastDay, lastDay + 1} {
			y, e := ledger.Known(f.x, day)
			l, other := ledger.View(f.x, day, 0)
			again, another := ledger.View(f.x, lastDay, day)
			if e != f.e || other != f.e || another != f.e || y.Facts != nil || l != nil || again != nil {
				t.Errorf("%s: Known(%d) = %d facts, %d, View = %d facts, %d, and %d facts, %d, want %d",
					f.name, day, len(y.Facts), e, len(l), other, len(again), another, f.e)
			}
		}
	}
}

// P8.3: the identifiers of facts of all kinds, in the order of the second ledger.
func TestMissing(t *testing.T) {
	l := ordered()
	for i := range len(l) + 1 {
		for k := range len(l) + 1 {
			a, b := of(l[:i]...), of(l[k:]...)
			var want []api.Digest
			for _, f := range l[max(i, k):] {
				want = append(want, idOf(f))
			}
			if d, e := ledger.Missing(a, b); e != api.OK || !slices.Equal(d, want) {
				t.Errorf("Missing of the first %d and those from %d on = %x, %d", i, k, d, e)
			}
			compareMissing(t, a, b)
			compareMissing(t, b, a)
		}
		without := of(slices.Concat(l[:min(i, len(l)-1)], l[min(i+1, len(l)):])...)
		if d, e := ledger.Missing(without, of(l...)); e != api.OK || len(d) != 1 || d[0] != idOf(l[min(i, len(l)-1)]) {
			t.Errorf("Missing without fact %d = %x, %d", i, d, e)
		}
		if d, e := ledger.Missing(of(l...), without); e != api.OK || len(d) != 0 {
			t.Errorf("Missing of nothing = %x, %d", d, e)
		}
	}
}

// P8.3: full ledgers, and facts that are voided or not by themselves.
func TestFullLedgers(t *testing.T) {
	all := many(mostFacts)
	x := of(all...)
	for _, n := range []int{0, 1, 2, 1000, mostFacts - 1} {
		for _, more := range []int{0, 1, 2} {
			known := min(3*n+more, lastDay)
			if y, e := ledger.Known(x, known); e != api.OK || !sameFacts(y.Facts, all[:n+1]) {
				t.Errorf("Known(%d) = %d facts, %d", known, len(y.Facts), e)
			}
		}
	}
	expectView(t, x, 6, lastDay, all...)
	late := func(f api.Fact) bool { return f.Day > 2 }
	expectView(t, x, 2, lastDay, slices.DeleteFunc(slices.Clone(all), late)...)
	voided := slices.Concat(all[:mostFacts-1], []api.Fact{on(0, lastDay, voidOf(all[2]))})
	want := slices.DeleteFunc(slices.Concat(all[:2], all[3:mostFacts-1]), late)
	expectView(t, of(voided...), 2, lastDay, want...)
	if l, e := ledger.Missing(x, x); e != api.OK || len(l) != 0 {
		t.Errorf("Missing = %d identifiers, %d", len(l), e)
	}
	if l, e := ledger.Missing(of(all[2:]...), x); e != api.OK || !slices.Equal(l, []api.Digest{idOf(all[0]), idOf(all[1])}) {
		t.Errorf("Missing = %d identifiers, %d", len(l), e)
	}
	if l, e := ledger.Missing(of(many(mostFacts + 1)[mostFacts:]...), x); e != api.OK || len(l) != mostFacts || l[5] != idOf(all[5]) {
		t.Errorf("Missing = %d identifiers, %d", len(l), e)
	}
}

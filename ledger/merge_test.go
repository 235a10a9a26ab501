package ledger_test

import (
	"math/rand/v2"
	"slices"
	"testing"

	"assize/api"
	"assize/ledger"
)

// P8.2: every fact of a list added to the others, in front, in the middle and at the end, and once more.
func TestAdd(t *testing.T) {
	for _, l := range [][]api.Fact{ordered(), pool(), kinds()[:1]} {
		for i, f := range l {
			others := slices.Concat(l[:i], l[i+1:])
			y, added, e := ledger.Add(of(others...), f)
			if e != api.OK || !added || !sameFacts(y.Facts, l) {
				t.Errorf("Add of fact %d of %d = %d facts, %t, %d", i, len(l), len(y.Facts), added, e)
			}
			again, added, e := ledger.Add(y, deep(f))
			if e != api.OK || added || !same(again, y) {
				t.Errorf("Add of fact %d of %d again = %d facts, %t, %d", i, len(l), len(again.Facts), added, e)
			}
			compareAdd(t, of(others...), f)
			compareAdd(t, of(l...), f)
		}
	}
}

// P8.2: a fact is contained only if all of it is equal.
func TestAddOfSimilarFacts(t *testing.T) {
	for _, f := range kinds() {
		f = on(3, 3, f)
		x := mustNew(t, f)
		for _, g := range []api.Fact{on(4, 3, f), on(3, 4, f), on(2, 3, f), on(3, 2, f), voidOf(f)} {
			y, added, e := ledger.Add(x, g)
			if e != api.OK || !added || len(y.Facts) != 2 {
				t.Errorf("Add(%+v) to %+v = %+v, %t, %d", g, f, y, added, e)
			}
			compareAdd(t, x, g)
		}
	}
}

// P8.2: ledgers and facts that are not valid; the ledger is checked first.
func TestErrorsOfAdd(t *testing.T) {
	good := mustNew(t, pool()...)
	for _, f := range faults() {
		for _, g := range []api.Fact{good.Facts[0], on(1, 1, move(77)), {}} {
			if y, added, e := ledger.Add(f.x, g); e != f.e || added || y.Facts != nil {
				t.Errorf("%s: Add = %d facts, %t, %d, want %d", f.name, len(y.Facts), added, e, f.e)
			}
		}
	}
	for _, f := range invalid() {
		for _, x := range []api.Ledger{{}, good} {
			if y, added, e := ledger.Add(x, f); e != api.ErrFact || added || y.Facts != nil {
				t.Errorf("Add(%+v) = %d facts, %t, %d", f, len(y.Facts), added, e)
			}
		}
	}
}

// P8.2: a ledger becomes full, a full one contains a further fact already, and then there is one fact too many.
func TestLimitOfAdd(t *testing.T) {
	all := many(mostFacts + 1)
	full := of(all[:mostFacts]...)
	for _, i := range []int{0, 1, mostFacts / 2, mostFacts - 1} {
		others := of(slices.Concat(all[:i], all[i+1:mostFacts])...)
		if y, added, e := ledger.Add(others, all[i]); e != api.OK || !added || !same(y, full) {
			t.Errorf("Add of the last of 65536 facts at %d = %d facts, %t, %d", i, len(y.Facts), added, e)
		}
		if y, added, e := ledger.Add(full, all[i]); e != api.OK || added || !same(y, full) {
			t.Errorf("Add of fact %d to a full ledger = %d facts, %t, %d", i, len(y.Facts), added, e)
		}
	}
	for _, x := range []struct {
		x    api.Ledger
		f    api.Fact
		want api.Errno
	}{
		{full, all[mostFacts], api.ErrLimit}, {full, on(3, 0, move(9)), api.ErrLimit}, {of(all[1:]...), all[0], api.ErrLimit},
		{full, api.Fact{}, api.ErrFact}, {of(all...), all[0], api.ErrLimit}, {of(all...), api.Fact{}, api.ErrLimit},
	} {
		if y, added, e := ledger.Add(x.x, x.f); e != x.want || added || y.Facts != nil {
			t.Errorf("Add to %d facts = %d facts, %t, %d, want %d", len(x.x.Facts), len(y.Facts), added, e, x.want)
		}
	}
}

// P8.2: ledgers with all, some and none of their facts in common.
func TestMerge(t *testing.T) {
	l := ordered()
	for i := range len(l) + 1 {
		for k := range len(l) + 1 {
			a, b := of(l[:i]...), of(l[k:]...)
			x, e := ledger.Merge(a, b)
			if e != api.OK || k <= i && !sameFacts(x.Facts, l) || k > i && !sameFacts(x.Facts, slices.Concat(l[:i], l[k:])) {
				t.Errorf("Merge of the first %d and those from %d on = %d facts, %d", i, k, len(x.Facts), e)
			}
			compareMerge(t, a, b)
			compareMerge(t, b, a)
		}
	}
	var odd, even []api.Fact
	for i, f := range l {
		if i%2 == 0 {
			even = append(even, f)
		} else {
			odd = append(odd, f)
		}
	}
	for _, x := range [][2][]api.Fact{{odd, even}, {even, odd}, {l, odd}, {even, l}, {l, l}, {l, nil}, {nil, l}} {
		if y, e := ledger.Merge(of(x[0]...), of(x[1]...)); e != api.OK || !sameFacts(y.Facts, l) {
			t.Errorf("Merge(%d facts, %d facts) = %d facts, %d", len(x[0]), len(x[1]), len(y.Facts), e)
		}
	}
	if x, e := ledger.Merge(api.Ledger{}, of([]api.Fact{}...)); e != api.OK || len(x.Facts) != 0 {
		t.Errorf("Merge of empty ledgers = %+v, %d", x, e)
	}
}

// P8.2, P8.3: ledgers that are not valid; the error of the first one comes first, whatever it is.
func TestErrorsOfTwoLedgers(t *testing.T) {
	good := mustNew(t, pool()...)
	all := append(faults(), fault{"valid", good, api.OK}, fault{"empty", api.Ledger{}, api.OK})
	// One fault of each kind is enough as a companion.
	few := slices.CompactFunc(slices.Clone(all), func(a, b fault) bool { return a.e == b.e })
	for _, a := range all {
		for _, b := range few {
			for _, pair := range [][2]fault{{a, b}, {b, a}} {
				want := pair[0].e
				if want == api.OK {
					want = pair[1].e
				}
				if want == api.OK {
					continue
				}
				x, e := ledger.Merge(pair[0].x, pair[1].x)
				l, other := ledger.Missing(pair[0].x, pair[1].x)
				if e != want || other != want || x.Facts != nil || l != nil {
					t.Errorf("%s and %s: Merge = %d facts, %d, Missing = %d identifiers, %d, want %d",
						pair[0].name, pair[1].name, len(x.Facts), e, len(l), other, want)
				}
			}
		}
	}
}

// P8.2: together as many different facts as there may be, and one more.
func TestLimitOfMerge(t *testing.T) {
	all := many(mostFacts + 1)
	full := all[:mostFacts]
	half := mostFacts / 2
	for _, x := range [][2][]api.Fact{
		{full, full}, {full, nil}, {nil, full}, {full, full[:1]}, {full[mostFacts-1:], full}, {full, full[half : half+9]},
		{full[:half], full[half:]}, {full[half:], full[:half]}, {full[:half+100], full[half-100:]}, {full[1:], full[:1]}, {full[:mostFacts-1], full[1:]},
	} {
		if y, e := ledger.Merge(of(x[0]...), of(x[1]...)); e != api.OK || !sameFacts(y.Facts, full) {
			t.Errorf("Merge(%d facts, %d facts) = %d facts, %d", len(x[0]), len(x[1]), len(y.Facts), e)
		}
	}
	for _, x := range [][2][]api.Fact{
		{full, all[mostFacts:]}, {all[mostFacts:], full}, {full, all[1:]}, {all[1:], full}, {all[1:], all[:1]}, {full, all[half:]},
		{all[:half], all[half:]}, {all[half:], all[:half+7]}, {all, nil}, {nil, all}, {all, all}, {full, all}, {all, full[:1]},
	} {
		if y, e := ledger.Merge(of(x[0]...), of(x[1]...)); e != api.ErrLimit || y.Facts != nil {
			t.Errorf("Merge(%d facts, %d facts) = %d facts, %d", len(x[0]), len(x[1]), len(y.Facts), e)
		}
	}
}

// drawn has a drawn ledger of the pool, which may not be valid.
func drawn(r *rand.Rand, all []api.Fact) api.Ledger {
	l := some(r, all, r.IntN(30))
	switch r.IntN(12) {
	case 0:
		l = shuffled(r, l)
	case 1:
		l = with(l, r.IntN(len(l)+1), invalid()[r.IntN(len(invalid()))])
	}
	return of(l...)
}

// P8.2: drawn ledgers and facts.
func TestDrawnAddAndMerge(t *testing.T) {
	r := rand.New(rand.NewPCG(8, 4))
	all := pool()
	for range 500 {
		a, b := drawn(r, all), drawn(r, all)
		compareAdd(t, a, all[r.IntN(len(all))])
		compareMerge(t, a, b)
		compareMerge(t, a, a)
	}
}

package ledger_test

import (
	"math/rand/v2"
	"slices"
	"testing"

	"assize/api"
	"assize/facts"
	"assize/ledger"
)

// ordered has facts in canonical order, written by hand: by Known, then by Day, by Kind, and by their encodings.
func ordered() []api.Fact {
	k := kinds()
	return []api.Fact{
		on(9, 0, k[6]),
		on(0, 1, k[7]), on(1, 1, k[0]), on(1, 1, k[1]), on(1, 1, k[2]), on(1, 1, k[3]), on(1, 1, k[4]), on(1, 1, k[5]), on(1, 1, k[6]), on(1, 1, k[7]),
		// i10e, i1e, i2e and i9e.
		on(2, 1, move(10)), on(2, 1, move(1)), on(2, 1, move(2)), on(2, 1, move(9)),
		on(10, 1, k[0]),
		on(0, 2, k[0]), on(0, 10, k[2]), on(0, lastDay, k[1]), on(lastDay, lastDay, k[0]),
	}
}

// P8.1: facts of all kinds in any order become a ledger, which is valid.
func TestNew(t *testing.T) {
	r := rand.New(rand.NewPCG(8, 1))
	want := ordered()
	backwards := slices.Clone(want)
	slices.Reverse(backwards)
	for _, l := range [][]api.Fact{want, backwards, shuffled(r, want), append(shuffled(r, want), backwards...)} {
		x, e := ledger.New(l)
		if e != api.OK || !sameFacts(x.Facts, want) || ledger.Check(x) != api.OK {
			t.Errorf("New = %+v, %d", x, e)
		}
		compareNew(t, l)
	}
	if e := ledger.Check(of(want...)); e != api.OK {
		t.Errorf("Check = %d", e)
	}
}

// P8.1: the examples of the chapter.
func TestExamplesOfNew(t *testing.T) {
	for _, l := range [][]api.Fact{nil, {}} {
		if x, e := ledger.New(l); e != api.OK || len(x.Facts) != 0 {
			t.Errorf("New(no facts) = %+v, %d", x, e)
		}
		if e := ledger.Check(of(l...)); e != api.OK {
			t.Errorf("Check(the empty ledger) = %d", e)
		}
	}
	for _, f := range kinds() {
		// The same fact may come with nil or with empty slices.
		for _, l := range [][]api.Fact{{f}, {f, f}, {f, deep(f)}, {deep(f), f, f}} {
			if x, e := ledger.New(l); e != api.OK || !sameFacts(x.Facts, []api.Fact{f}) {
				t.Errorf("New(%d times the same) = %+v, %d", len(l), x, e)
			}
		}
		if e := ledger.Check(of(f)); e != api.OK {
			t.Errorf("Check(one fact) = %d", e)
		}
		if e := ledger.Check(of(f, deep(f))); e != api.ErrLedger {
			t.Errorf("Check(a ledger with a fact twice) = %d", e)
		}
	}
}

// P8.1: lists with a fact that is not valid, wherever it is, and whatever else is in them.
func TestNewOfInvalidFacts(t *testing.T) {
	good := pool()
	for _, f := range invalid() {
		for _, at := range []int{0, 1, len(good) / 2, len(good) - 1, len(good)} {
			l := with(good, at, f)
			if x, e := ledger.New(l); e != api.ErrFact || x.Facts != nil {
				t.Errorf("New with %+v at %d = %d facts, %d", f, at, len(x.Facts), e)
			}
		}
		if x, e := ledger.New([]api.Fact{f, f}); e != api.ErrFact || x.Facts != nil {
			t.Errorf("New(%+v twice) = %+v, %d", f, x, e)
		}
	}
}

// P8.1: as many different facts as there may be, and one more, also if there are repetitions or facts that are not valid.
func TestLimitOfNew(t *testing.T) {
	r := rand.New(rand.NewPCG(8, 2))
	for i, all := range [][]api.Fact{many(mostFacts + 1), inEncodedOrder(alike(mostFacts + 1))} {
		full := all[:mostFacts]
		again := slices.Concat(full[mostFacts-1:], full, full[:5], shuffled(r, full))
		for _, l := range [][]api.Fact{full, shuffled(r, full), again} {
			if x, e := ledger.New(l); e != api.OK || !sameFacts(x.Facts, full) {
				t.Errorf("%d: New(%d facts) = %d facts, %d", i, len(l), len(x.Facts), e)
			}
		}
		for _, l := range [][]api.Fact{all, shuffled(r, all), append(again, all[mostFacts]), append(all[1:], all[:3]...)} {
			if x, e := ledger.New(l); e != api.ErrLimit || x.Facts != nil {
				t.Errorf("%d: New(%d facts) = %d facts, %d", i, len(l), len(x.Facts), e)
			}
		}
		for _, at := range []int{0, mostFacts, mostFacts + 1} {
			if x, e := ledger.New(with(all, at, api.Fact{})); e != api.ErrFact || x.Facts != nil {
				t.Errorf("%d: New(too many facts, one not valid at %d) = %d facts, %d", i, at, len(x.Facts), e)
			}
		}
	}
}

// inEncodedOrder has facts of the same kind and days in canonical order.
func inEncodedOrder(l []api.Fact) []api.Fact {
	encodings := map[string]api.Fact{}
	var keys []string
	for _, f := range l {
		b, _ := facts.Encode(f)
		encodings[string(b)] = f
		keys = append(keys, string(b))
	}
	slices.Sort(keys)
	var sorted []api.Fact
	for _, k := range keys {
		sorted = append(sorted, encodings[k])
	}
	return sorted
}

// P8.1: ledgers that are not valid, for one reason or for several ones.
func TestCheck(t *testing.T) {
	for _, f := range faults() {
		if e := ledger.Check(f.x); e != f.e {
			t.Errorf("%s: Check = %d, want %d", f.name, e, f.e)
		}
	}
	l := ordered()
	for i := range l {
		for k := range l {
			compareCheck(t, of(l[i], l[k]))
			compareCheck(t, of(l[0], l[i], l[k]))
			turned := slices.Clone(l)
			turned[i], turned[k] = turned[k], turned[i]
			compareCheck(t, of(turned...))
		}
	}
}

// P8.1: as many facts as there may be, and one more, which may be the same as another one.
func TestLimitOfCheck(t *testing.T) {
	all := many(mostFacts + 1)
	for _, x := range []struct {
		l    []api.Fact
		want api.Errno
	}{
		{all[:mostFacts], api.OK}, {all[1:], api.OK}, {all[:mostFacts-1], api.OK}, {all, api.ErrLimit},
		{inEncodedOrder(alike(mostFacts)), api.OK},
		{with(all[:mostFacts], 3, all[3]), api.ErrLimit}, {with(all[:mostFacts], 0, api.Fact{}), api.ErrLimit},
		{with(all[:mostFacts-1], 3, all[3]), api.ErrLedger}, {with(all[:mostFacts-1], 0, api.Fact{}), api.ErrFact},
		{with(all[:mostFacts-1], mostFacts-1, all[0]), api.ErrLedger}, {with(all[:mostFacts-1], mostFacts-1, api.Fact{Kind: 9}), api.ErrFact},
	} {
		if e := ledger.Check(of(x.l...)); e != x.want {
			t.Errorf("Check(%d facts) = %d, want %d", len(x.l), e, x.want)
		}
	}
}

// P8.1: drawn lists of facts, valid and not, with repetitions and in order or not.
func TestDrawnLists(t *testing.T) {
	r := rand.New(rand.NewPCG(8, 3))
	all := pool()
	results := map[api.Errno]int{}
	for range 500 {
		l := some(r, all, r.IntN(40))
		switch r.IntN(4) {
		case 0:
			l = shuffled(r, l)
		case 1:
			l = append(l, shuffled(r, l)...)
		case 2:
			l = with(l, r.IntN(len(l)+1), invalid()[r.IntN(len(invalid()))])
		}
		compareNew(t, l)
		compareCheck(t, of(l...))
		results[checkOf(of(l...))]++
	}
	if results[api.OK] < 50 || results[api.ErrFact] < 50 || results[api.ErrLedger] < 50 {
		t.Errorf("of the drawn lists, too few have some result: %v", results)
	}
}

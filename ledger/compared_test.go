package ledger_test

import (
	"slices"
	"testing"

	"assize/api"
	"assize/facts"
	"assize/ledger"
)

// The functions below call a function of the package with arguments that share no memory with the given ones, and report
// an error unless it returns what the definition says, everything besides an error among it, and leaves its arguments as
// they were, the space behind them too.

func compareNew(t *testing.T, l []api.Fact) {
	t.Helper()
	arg, intact := guarded(l)
	want, wantE := newOf(l)
	if x, e := ledger.New(arg); e != wantE || !same(x, want) || !intact() {
		t.Errorf("New(%d facts) = %d facts, %d, want %d, %d, intact %t", len(l), len(x.Facts), e, len(want.Facts), wantE, intact())
	}
}

func compareCheck(t *testing.T, x api.Ledger) {
	t.Helper()
	arg, intact := guarded(x.Facts)
	if e := ledger.Check(of(arg...)); e != checkOf(x) || !intact() {
		t.Errorf("Check(%d facts) = %d, want %d, intact %t", len(x.Facts), e, checkOf(x), intact())
	}
}

func compareAdd(t *testing.T, x api.Ledger, f api.Fact) {
	t.Helper()
	arg, intact := guarded(x.Facts)
	want, wantAdded, wantE := addOf(x, f)
	y, added, e := ledger.Add(of(arg...), deep(f))
	if e != wantE || added != wantAdded || !same(y, want) || !intact() {
		t.Errorf("Add(%d facts, %+v) = %d facts, %t, %d, want %d, %t, %d, intact %t",
			len(x.Facts), f, len(y.Facts), added, e, len(want.Facts), wantAdded, wantE, intact())
	}
}

func compareMerge(t *testing.T, a, b api.Ledger) {
	t.Helper()
	first, intact := guarded(a.Facts)
	second, intactToo := guarded(b.Facts)
	want, wantE := mergeOf(a, b)
	if x, e := ledger.Merge(of(first...), of(second...)); e != wantE || !same(x, want) || !intact() || !intactToo() {
		t.Errorf("Merge(%d facts, %d facts) = %d facts, %d, want %d, %d, intact %t, %t",
			len(a.Facts), len(b.Facts), len(x.Facts), e, len(want.Facts), wantE, intact(), intactToo())
	}
}

func compareKnown(t *testing.T, x api.Ledger, known int) {
	t.Helper()
	arg, intact := guarded(x.Facts)
	want, wantE := knownOf(x, known)
	if y, e := ledger.Known(of(arg...), known); e != wantE || !same(y, want) || !intact() {
		t.Errorf("Known(%d facts, %d) = %d facts, %d, want %d, %d, intact %t",
			len(x.Facts), known, len(y.Facts), e, len(want.Facts), wantE, intact())
	}
}

func compareView(t *testing.T, x api.Ledger, day, known int) {
	t.Helper()
	arg, intact := guarded(x.Facts)
	want, wantE := viewOf(x, day, known)
	if l, e := ledger.View(of(arg...), day, known); e != wantE || !sameFacts(l, want) || !intact() {
		t.Errorf("View(%d facts, %d, %d) = %d facts, %d, want %d, %d, intact %t",
			len(x.Facts), day, known, len(l), e, len(want), wantE, intact())
	}
}

func compareMissing(t *testing.T, a, b api.Ledger) {
	t.Helper()
	first, intact := guarded(a.Facts)
	second, intactToo := guarded(b.Facts)
	want, wantE := missingOf(a, b)
	if l, e := ledger.Missing(of(first...), of(second...)); e != wantE || !slices.Equal(l, want) || !intact() || !intactToo() {
		t.Errorf("Missing(%d facts, %d facts) = %d identifiers, %d, want %d, %d, intact %t, %t",
			len(a.Facts), len(b.Facts), len(l), e, len(want), wantE, intact(), intactToo())
	}
}

// fault is a ledger that is not valid, and why.
type fault struct {
	name string
	x    api.Ledger
	e    api.Errno
}

// faults has ledgers that are not valid for one reason, and for several ones.
func faults() (l []fault) {
	good := inOrder(pool())
	last := len(good) - 1
	middle := len(good) / 2
	for _, at := range []int{0, 1, middle, last, last + 1} {
		for _, f := range invalid() {
			l = append(l, fault{"a fact that is not valid", of(with(good, at, f)...), api.ErrFact})
			l = append(l, fault{"two facts that are not valid", of(with(with(good, middle, f), at, f)...), api.ErrFact})
		}
	}
	for _, at := range []int{0, 1, middle, last - 1} {
		turned := slices.Clone(good)
		turned[at], turned[at+1] = turned[at+1], turned[at]
		l = append(l, fault{"two neighbours out of order", of(turned...), api.ErrLedger})
		l = append(l, fault{"a fact twice", of(with(good, at, deep(good[at]))...), api.ErrLedger})
		l = append(l, fault{"out of order, and not valid at the end", of(append(turned, api.Fact{})...), api.ErrFact})
		l = append(l, fault{"not valid at the beginning, and out of order", of(with(turned, 0, api.Fact{Kind: 9})...), api.ErrFact})
	}
	backwards := slices.Clone(good)
	slices.Reverse(backwards)
	moved := slices.Concat(good[last:], good[:last])
	equal := slices.Repeat(good[:1], mostFacts+1)
	return append(l,
		fault{"backwards", of(backwards...), api.ErrLedger},
		fault{"the last fact in front", of(moved...), api.ErrLedger},
		fault{"twice", of(good[0], good[0]), api.ErrLedger},
		fault{"nothing but one that is not valid", of(api.Fact{}), api.ErrFact},
		fault{"a fact twice, which is not valid", of(api.Fact{}, api.Fact{}), api.ErrFact},
		fault{"too many facts", of(many(mostFacts + 1)...), api.ErrLimit},
		fault{"too many facts, which are equal", of(equal...), api.ErrLimit},
		fault{"too many facts, which are not valid", of(make([]api.Fact, mostFacts+1)...), api.ErrLimit},
	)
}

// The faults are what they are meant to be: otherwise their tests would show little.
func TestFaults(t *testing.T) {
	if good := inOrder(pool()); checkOf(of(good...)) != api.OK || len(good) < 50 {
		t.Errorf("the pool has %d facts: %d", len(good), checkOf(of(good...)))
	}
	for _, f := range faults() {
		if e := checkOf(f.x); e != f.e {
			t.Errorf("%s: %d, want %d", f.name, e, f.e)
		}
	}
	for _, f := range invalid() {
		if facts.Check(f) != api.ErrFact {
			t.Errorf("%+v is valid", f)
		}
	}
}

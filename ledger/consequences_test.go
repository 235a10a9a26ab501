package ledger_test

import (
	"math/rand/v2"
	"slices"
	"testing"

	"assize/api"
	"assize/facts"
	"assize/ledger"
)

// few has five facts, of which one voids another one, and the VoidF is named by a further one.
func few() []api.Fact {
	f := on(3, 2, move(10))
	v := on(1, 3, voidOf(f))
	return []api.Fact{f, on(3, 2, move(9)), v, on(0, 4, kinds()[0]), on(0, 1, voidOf(v))}
}

// subsets has the ledgers of some of the facts, by bits.
func subsets(t *testing.T, l []api.Fact) (all []api.Ledger) {
	for bits := range 1 << len(l) {
		var part []api.Fact
		for i, f := range l {
			if bits>>i&1 == 1 {
				part = append(part, f)
			}
		}
		all = append(all, mustNew(t, part...))
	}
	return all
}

// addedTo adds the facts one after the other.
func addedTo(t *testing.T, x api.Ledger, l []api.Fact) api.Ledger {
	t.Helper()
	for _, f := range l {
		y, added, e := ledger.Add(x, f)
		if e != api.OK || added == contains(x.Facts, f) || !added && !same(x, y) {
			t.Fatalf("Add(%d facts, %+v) = %d facts, %t, %d", len(x.Facts), f, len(y.Facts), added, e)
		}
		x = y
	}
	return x
}

func mustMerge(t *testing.T, a, b api.Ledger) api.Ledger {
	t.Helper()
	x, e := ledger.Merge(a, b)
	if e != api.OK {
		t.Fatalf("Merge of %d and %d valid facts: %d", len(a.Facts), len(b.Facts), e)
	}
	return x
}

// sequences yields every list of so many elements of l, with repetitions.
func sequences(l []api.Fact, many int, yield func(s []api.Fact)) {
	if many == 0 {
		yield(nil)
		return
	}
	sequences(l, many-1, func(s []api.Fact) {
		for _, f := range l {
			yield(append(slices.Clip(s), f))
		}
	})
}

// P8.4: every list of up to four of the facts, in any order and with any repetitions, whether New has it, it is added
// one by one, or in two parts, of which one is merged or added to the other.
func TestOrderAndRepetition(t *testing.T) {
	l := few()
	all := subsets(t, l)
	for many := range 5 {
		sequences(l, many, func(s []api.Fact) {
			bits := 0
			for i, f := range l {
				if contains(s, f) {
					bits |= 1 << i
				}
			}
			want := all[bits]
			if x := mustNew(t, s...); !same(x, want) {
				t.Errorf("New(%+v) = %+v", s, x)
			}
			if x := addedTo(t, api.Ledger{}, s); !same(x, want) {
				t.Errorf("%+v added one by one: %+v", s, x)
			}
			for i := range s {
				front, back := mustNew(t, s[:i]...), mustNew(t, s[i:]...)
				if x := mustMerge(t, front, back); !same(x, want) {
					t.Errorf("Merge(%+v, %+v) = %+v", front, back, x)
				}
				if x := addedTo(t, back, s[:i]); !same(x, want) {
					t.Errorf("%+v added to %+v: %+v", s[:i], back, x)
				}
			}
		})
	}
}

// grouped merges ledgers of parts of a list, which are divided further and further, where the list is drawn apart.
func grouped(t *testing.T, r *rand.Rand, l []api.Fact) api.Ledger {
	t.Helper()
	if len(l) < 2 || r.IntN(5) == 0 {
		if r.IntN(2) == 0 {
			return mustNew(t, l...)
		}
		return addedTo(t, api.Ledger{}, l)
	}
	at := 1 + r.IntN(len(l)-1)
	// Some facts are in both parts.
	return mustMerge(t, grouped(t, r, l[:at]), grouped(t, r, l[max(at-r.IntN(3), 0):]))
}

// P8.4: facts of all kinds in any order, grouping and repetition.
func TestGrouping(t *testing.T) {
	r := rand.New(rand.NewPCG(8, 6))
	for range 60 {
		l := some(r, pool(), 40)
		want := mustNew(t, l...)
		for range 3 {
			s := shuffled(r, append(slices.Clone(l), some(r, l, 30)...))
			if x := grouped(t, r, s); !same(x, want) || ledger.Check(x) != api.OK {
				t.Errorf("%d facts become a ledger of %d, want %d", len(s), len(x.Facts), len(want.Facts))
			}
		}
	}
}

// P8.4: Merge is idempotent, commutative and associative; the empty ledger adds nothing.
func TestLawsOfMerge(t *testing.T) {
	all := subsets(t, few())
	for i, a := range all {
		if x := mustMerge(t, a, a); !same(x, a) {
			t.Errorf("merged with itself, %+v becomes %+v", a, x)
		}
		if x := mustMerge(t, a, api.Ledger{}); !same(x, a) {
			t.Errorf("merged with nothing, %+v becomes %+v", a, x)
		}
		for k, b := range all {
			ab := mustMerge(t, a, b)
			if !same(ab, all[i|k]) || !same(ab, mustMerge(t, b, a)) {
				t.Errorf("Merge(%+v, %+v) = %+v", a, b, ab)
			}
			for _, c := range all {
				if !same(mustMerge(t, ab, c), mustMerge(t, a, mustMerge(t, b, c))) {
					t.Errorf("Merge is not associative: %+v, %+v, %+v", a, b, c)
				}
			}
		}
	}
}

// P8.4: what is in force on a day as known on a day is still so when facts are added that are recorded later, VoidFs
// among them, one by one or many at once.
func TestLaterFacts(t *testing.T) {
	all := pool()
	r := rand.New(rand.NewPCG(8, 7))
	for range 20 {
		x := mustNew(t, some(r, all, 30)...)
		for known := range 7 {
			later := slices.DeleteFunc(slices.Clone(all), func(f api.Fact) bool { return f.Known <= known })
			for day := range 7 {
				before, e := ledger.View(x, day, known)
				if e != api.OK {
					t.Fatal(e)
				}
				expectView(t, mustMerge(t, x, mustNew(t, later...)), day, known, before...)
				f := later[r.IntN(len(later))]
				expectView(t, addedTo(t, x, []api.Fact{f, on(0, known+1, voidOf(f))}), day, known, before...)
				if len(before) > 0 {
					g := before[r.IntN(len(before))]
					expectView(t, addedTo(t, x, []api.Fact{on(0, known+1, voidOf(g))}), day, known, before...)
				}
			}
		}
	}
}

// P8.4: Known of Known is Known for the lesser day, and View of Known is View for its day from that day on.
func TestKnownOfKnown(t *testing.T) {
	x := mustNew(t, pool()...)
	l := []int{0, 1, 2, 3, 4, 5, 6, 7, 77, lastDay - 1, lastDay}
	for _, known := range l {
		y, e := ledger.Known(x, known)
		if e != api.OK || ledger.Check(y) != api.OK {
			t.Fatal(known, e)
		}
		for _, other := range l {
			less, e := ledger.Known(x, min(known, other))
			again, another := ledger.Known(y, other)
			if e != api.OK || another != api.OK || !same(less, again) {
				t.Errorf("Known(Known(%d), %d) has %d facts, want %d", known, other, len(again.Facts), len(less.Facts))
			}
			for _, day := range l {
				want, e := ledger.View(x, day, min(known, other))
				if e != api.OK {
					t.Fatal(e)
				}
				expectView(t, y, day, other, want...)
			}
		}
	}
}

// P8.4: what a ledger lacks of another one, and what it has besides, is what makes them equal.
func TestMissingFactsMakeLedgersEqual(t *testing.T) {
	all := subsets(t, few())
	for _, a := range all {
		for _, b := range all {
			l, e := ledger.Missing(a, b)
			if e != api.OK {
				t.Fatal(e)
			}
			lacking := slices.DeleteFunc(slices.Clone(b.Facts), func(f api.Fact) bool { return !slices.Contains(l, idOf(f)) })
			if x := addedTo(t, a, lacking); len(lacking) != len(l) || !same(x, mustMerge(t, a, b)) {
				t.Errorf("with what is missing of %+v, %+v becomes %+v", b, a, x)
			}
		}
	}
}

// R2: results stay as they are when they are used further, and so do the ledgers that they come from.
func TestResultsStay(t *testing.T) {
	l := ordered()
	x := mustNew(t, l...)
	late := on(lastDay, lastDay, kinds()[7])
	var results []api.Ledger
	var copies [][]api.Fact
	keep := func(y api.Ledger) {
		results, copies = append(results, y), append(copies, deepAll(y.Facts))
	}
	keep(x)
	for known := range 12 {
		y, _ := ledger.Known(x, known)
		keep(y)
		for _, f := range []api.Fact{on(0, 0, move(77)), on(0, known, move(77)), late} {
			z, _, _ := ledger.Add(y, f)
			keep(z)
			keep(mustMerge(t, z, y))
			v, _ := ledger.View(z, 9, 9)
			keep(of(v...))
			again, _, _ := ledger.Add(of(v...), late)
			keep(again)
		}
		// Nor does it harm x if somebody appends to what was known of it.
		if more := append(y.Facts, late); len(more) == len(l) {
			keep(of(more...))
		}
	}
	for i, y := range results {
		if !slices.EqualFunc(y.Facts, copies[i], facts.Same) {
			t.Errorf("result %d of %d has changed", i, len(results))
		}
	}
}

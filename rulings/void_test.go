package rulings_test

import (
	"math/rand/v2"
	"slices"
	"testing"

	"assize/api"
	"assize/facts"
	"assize/rulings"
)

// P10.2: the examples of the chapter.
func TestExamplesOfVoid(t *testing.T) {
	for _, l := range [][]api.Fact{nil, {}, {appealed(5, 5, 7, 1, true)}} {
		expectVoid(t, l)
	}
	early, late := ruled(9, 5, 7, 1, annul(in)), ruled(4, 6, 7, 1, forfeit(in, 5))
	expectVoid(t, []api.Fact{early, late}, late)
	expectVoid(t, []api.Fact{late, early}, late)
}

// P10.2: of two different rulings of one instance the second one is void; a ruling of another instance, or of another
// case, is not, and neither is the first ruling given twice.
func TestVoidOfTwo(t *testing.T) {
	for _, x := range contradictions() {
		first, second := x[0], x[1]
		for _, l := range [][]api.Fact{{first, second}, {second, first}, {second, deep(second), first, first, deep(second)}} {
			expectVoid(t, l, second)
			// Whether the case is suspended, or this instance is the last one, is irrelevant.
			expectVoid(t, append(l, appealed(9, 9, 7, first.Ruling.Instance, true)), second)
			expectVoid(t, append(l, ruled(0, 0, 7, 3, nothing())), second)
		}
		expectVoid(t, []api.Fact{first, first, deep(first)})
		expectVoid(t, []api.Fact{second, deep(second)})
		second.Ruling.Case = 8
		expectVoid(t, []api.Fact{first, second})
		second.Ruling.Case, second.Ruling.Instance = 7, 3
		expectVoid(t, []api.Fact{first, second})
	}
}

// P10.2: the same ruling recorded twice, on other days, is two different facts.
func TestVoidRepetitions(t *testing.T) {
	a, b, c := ruled(5, 5, 7, 1, annul(in)), ruled(5, 6, 7, 1, annul(in)), ruled(6, 6, 7, 1, annul(in))
	expectVoid(t, []api.Fact{c, b, a, a}, b, c)
	expectVoid(t, []api.Fact{c, b}, c)
}

// voidInOrder has rulings of three cases and all instances, and those of them that are void in canonical order: by Known,
// by Day, and by their encodings, which begin with the number of the case and the instance.
func voidInOrder() (standing, void []api.Fact) {
	for _, number := range []int{2, 7, 10} {
		for instance := 1; instance <= 3; instance++ {
			standing = append(standing, ruled(lastDay, 0, number, instance, nothing()))
		}
	}
	void = []api.Fact{
		ruled(9, 1, 7, 3, annul(in)),
		ruled(0, 2, 10, 3, annul(in)), ruled(1, 2, 7, 1, fine(5, 7)), ruled(2, 2, 2, 1, forfeit(in, 5)), ruled(10, 2, 2, 1, forfeit(in, 5)),
		ruled(3, 9, 10, 1, annul(in)), ruled(3, 9, 10, 3, points(4, 2, 5, 10)), ruled(3, 9, 10, 3, points(4, 2, 5, 2)),
		ruled(3, 9, 2, 1, fine(5, 100)), ruled(3, 9, 2, 1, fine(5, 99)), ruled(3, 9, 2, 2, annul(in)), ruled(3, 9, 7, 1, ban(5, 3, 5)),
		ruled(3, 9, 7, 1, nothing()),
		ruled(2, 10, 2, 3, nothing()), ruled(0, lastDay, 7, 2, nothing()), ruled(lastDay, lastDay, 2, 1, nothing()),
	}
	return standing, void
}

// P10.2: several void rulings of several cases and instances, in canonical order, each once.
func TestVoidInOrder(t *testing.T) {
	r := rand.New(rand.NewPCG(10, 4))
	standing, void := voidInOrder()
	if !slices.IsSortedFunc(void, facts.Compare) {
		t.Error("the facts are not in canonical order")
	}
	appeals := []api.Fact{appealed(9, 9, 2, 1, true), appealed(0, 0, 7, 2, true), appealed(9, 9, 10, 2, false)}
	for range 100 {
		l := slices.Concat(standing, void, void[:r.IntN(len(void))], standing[:5], appeals, others(void...))
		expectVoid(t, shuffled(r, l), void...)
	}
	expectVoid(t, standing)
}

// P10.2: facts that are not valid are ignored, at the beginning, in the middle and at the end: they are not void, and
// they make no others void.
func TestVoidWithDamagedFacts(t *testing.T) {
	for _, r := range kinds() {
		first, second := ruled(5, 5, 7, 2, r), ruled(6, 6, 7, 2, fine(9, 9))
		for _, d := range slices.Concat(damaged(ruled(0, 0, 7, 2, r)), damaged(ruled(9, 9, 7, 2, r)), damaged(appealed(5, 5, 7, 2, true))) {
			expectVoid(t, []api.Fact{d})
			expectVoid(t, []api.Fact{d, d})
			for at := range 2 {
				expectVoid(t, with([]api.Fact{first}, at, d))
			}
			for at := range 3 {
				expectVoid(t, with([]api.Fact{first, second}, at, d), second)
				expectVoid(t, with([]api.Fact{second, first}, at, d), second)
			}
		}
	}
}

// P10.2: exactly as many elements as there may be, and one more: different rulings of one instance, equal ones, facts of
// other kinds, and facts that are not valid.
func TestLimitOfVoid(t *testing.T) {
	var different, last []api.Fact
	for i := range mostFacts + 1 {
		different = append(different, ruled(i%7, i, 7, 2, annul(in)))
		last = append(last, ruled(5, 5, 1+i, 3, nothing()))
	}
	ids := identifiers(different[:mostFacts])
	different[mostFacts-1], different[0] = different[0], different[mostFacts-1]
	for _, x := range []struct {
		name string
		l    []api.Fact // as many as there may be, and one more
		void []api.Digest
	}{
		{"different", different, ids[1:]}, {"of other cases", last, nil}, {"not valid", make([]api.Fact, mostFacts+1), nil},
		{"one not valid, then an equal one", with(different[1:mostFacts], 7, api.Fact{}, different[7]), ids[2 : mostFacts-1]},
		{"equal", slices.Repeat(last[:1], mostFacts+1), nil}, {"of other kinds", slices.Repeat(others()[2:3], mostFacts+1), nil},
	} {
		if v, e := rulings.Void(x.l[:mostFacts]); e != api.OK || !slices.Equal(v, x.void) {
			t.Errorf("%s: Void = %d identifiers, %d, want %d", x.name, len(v), e, len(x.void))
		}
		if v, e := rulings.Void(x.l); len(x.l) != mostFacts+1 || e != api.ErrLimit || len(v) != 0 {
			t.Errorf("%s: Void of %d = %d identifiers, %d", x.name, len(x.l), len(v), e)
		}
	}
}

// P10.2: drawn facts of all kinds, damaged and repeated ones, as the definition says.
func TestDrawnVoid(t *testing.T) {
	r := rand.New(rand.NewPCG(10, 6))
	void := 0
	for i := range 400 {
		l := drawn(r, i%60)
		compareVoid(t, l)
		void += len(voidOf(counted(l)))
	}
	if void < 1000 {
		t.Errorf("only %d void rulings", void)
	}
}

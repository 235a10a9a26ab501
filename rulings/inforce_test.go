package rulings_test

import (
	"math"
	"math/rand/v2"
	"slices"
	"testing"

	"assize/api"
	"assize/facts"
	"assize/rulings"
)

// expectCase reports an error unless a case has this ruling in force, or none if the ruling is zero, and is suspended or
// not, in whatever order the facts are given. There are no other cases.
func expectCase(t *testing.T, number int, want api.Ruling, suspended bool, l ...api.Fact) {
	t.Helper()
	backwards := slices.Clone(l)
	slices.Reverse(backwards)
	for _, all := range [][]api.Fact{l, backwards, append(slices.Clone(l), deepAll(l)...)} {
		expectOf(t, all, number, want, want != api.Ruling{})
		expectSuspended(t, all, number, suspended)
		if want == (api.Ruling{}) {
			expectInForce(t, all)
		} else {
			expectInForce(t, all, want)
		}
	}
}

// P10.1: the examples of the chapter.
func TestExamplesOfInForce(t *testing.T) {
	for _, l := range [][]api.Fact{nil, {}} {
		expectInForce(t, l)
		expectOf(t, l, 0, api.Ruling{}, false)
		expectOf(t, l, 7, api.Ruling{}, false)
		expectSuspended(t, l, 7, false)
	}
	for instance := 1; instance <= 2; instance++ {
		expectCase(t, 7, api.Ruling{}, false, appealed(9, 9, 7, instance, true))
	}
	first, appeal := ruled(5, 5, 7, 1, forfeit(in, 5)), appealed(6, 6, 7, 1, true)
	expectCase(t, 7, first.Ruling, false, first)
	expectCase(t, 7, api.Ruling{}, true, first, appeal)
	for _, r := range append(kinds(), forfeit(in, 5)) {
		second := ruled(8, 8, 7, 2, r)
		expectCase(t, 7, second.Ruling, false, first, appeal, second)
	}
}

// P10.1: a ruling of any kind of any instance in any case, alone, with all its fields.
func TestKindsInForce(t *testing.T) {
	for _, r := range pool() {
		for _, number := range cases() {
			for instance := 1; instance <= 3; instance++ {
				f := ruled(lastDay, 0, number, instance, r)
				expectCase(t, number, f.Ruling, false, f)
				expectOf(t, []api.Fact{f}, number+1, api.Ruling{}, false)
				expectOf(t, []api.Fact{f}, number-1, api.Ruling{}, false)
			}
		}
	}
}

// proceedings has the rulings of some of the instances, those whose bits are set, and appeals against the first two: none,
// one that does not suspend, one that does, or both.
func proceedings(instances int, appeals [2]int, day func(i int) int) (l []api.Fact) {
	for i := range 3 {
		if instances>>i&1 == 1 {
			l = append(l, ruled(day(i), day(i), 7, i+1, kinds()[i]))
		}
	}
	for i, n := range appeals {
		if n&1 == 1 {
			l = append(l, appealed(day(i), day(i+1), 7, i+1, false))
		}
		if n&2 == 2 {
			l = append(l, appealed(day(i+1), day(i), 7, i+1, true))
		}
	}
	return l
}

// P10.1: all combinations of instances and appeals: the last instance decides, and only appeals against it suspend,
// whenever anything was known and takes effect.
func TestInstances(t *testing.T) {
	for _, day := range []func(i int) int{
		func(i int) int { return i }, func(i int) int { return lastDay - i }, func(int) int { return 9 },
	} {
		for instances := range 8 {
			last := []int{0, 1, 2, 2, 3, 3, 3, 3}[instances]
			for n := range 16 {
				appeals := [2]int{n % 4, n / 4}
				l := proceedings(instances, appeals, day)
				switch {
				case last == 0:
					expectCase(t, 7, api.Ruling{}, false, l...)
				case last < 3 && appeals[last-1] >= 2:
					expectCase(t, 7, api.Ruling{}, true, l...)
				default:
					expectCase(t, 7, ruled(0, 0, 7, last, kinds()[last-1]).Ruling, false, l...)
				}
			}
		}
	}
}

// contradictions has pairs of rulings of one case by one instance of which the first one stands.
func contradictions() (l [][2]api.Fact) {
	for _, days := range [][4]int{{9, 5, 0, 6}, {4, 5, 5, 5}, {5, 5, 5, 6}, {lastDay, 0, 0, lastDay}, {0, lastDay, lastDay, lastDay}} {
		for i, r := range kinds() {
			other := kinds()[(i+3)%8]
			l = append(l, [2]api.Fact{ruled(days[0], days[1], 7, 2, r), ruled(days[2], days[3], 7, 2, other)})
			l = append(l, [2]api.Fact{ruled(days[0], days[1], 7, 2, other), ruled(days[2], days[3], 7, 2, r)})
		}
	}
	// On the same day the encodings decide: that of 10 is less than that of 2, and that of 100 than that of 99.
	for _, x := range [][2]api.Ruling{
		{forfeit(in, 5), annul(in)}, {forfeit(in, 5), forfeit(in, 7)}, {ban(5, 3, 5), nothing()}, {score(in, 10, 2), score(in, 2, 10)},
		{points(4, 2, 5, 10), points(4, 2, 5, 2)}, {fine(5, 100), fine(5, 99)}, {fine(10, 9), fine(9, 10)}, {ban(5, 10, 20), ban(5, 9, 9)},
		{points(10, 2, 5, 3), points(9, 2, 5, 3)}, {unfit(11, 3, 10), unfit(11, 3, 5)}, {annul(games()[3]), annul(in)},
	} {
		l = append(l, [2]api.Fact{ruled(5, 5, 7, 1, x[0]), ruled(5, 5, 7, 1, x[1])})
	}
	return l
}

// P10.1: two different rulings of one instance: the first one in canonical order stands, whatever the other one says.
func TestStandingRulings(t *testing.T) {
	for _, x := range contradictions() {
		first, second := x[0], x[1]
		if facts.Compare(first, second) != -1 {
			t.Errorf("%+v is not before %+v", first, second)
		}
		expectCase(t, 7, first.Ruling, false, first, second)
		// The same in a lower instance has no effect, and in a suspended one neither does the second ruling.
		third := ruled(0, 0, 7, 3, annul(in))
		expectCase(t, 7, third.Ruling, false, first, second, third)
		expectCase(t, 7, api.Ruling{}, true, first, second, appealed(7, 7, 7, first.Ruling.Instance, true))
		// Rulings of other instances and in other cases are no contradictions.
		second.Ruling.Case = 8
		expectInForce(t, []api.Fact{second, first}, first.Ruling, second.Ruling)
		second.Ruling.Case, second.Ruling.Instance = 7, 3
		expectCase(t, 7, second.Ruling, false, first, second)
	}
}

// P10.1: an appeal against an instance that is not the last one, or in another case, or that does not suspend.
func TestAppealsWithoutEffect(t *testing.T) {
	first, second := ruled(5, 5, 7, 1, annul(in)), ruled(6, 6, 7, 2, nothing())
	for _, day := range []int{0, 5, 6, lastDay} {
		expectCase(t, 7, second.Ruling, false, first, second, appealed(day, day, 7, 1, true))
		expectCase(t, 7, second.Ruling, false, first, second, appealed(day, day, 7, 2, false))
		expectCase(t, 7, first.Ruling, false, first, appealed(day, day, 7, 2, true))
		for _, number := range []int{1, 6, 8, 70, lastCase} {
			expectCase(t, 7, first.Ruling, false, first, appealed(day, day, number, 1, true))
		}
		// The last instance is suspended: the standing ruling of the lower one does not come into force again.
		expectCase(t, 7, api.Ruling{}, true, first, second, appealed(day, day, 7, 2, true))
		expectCase(t, 7, api.Ruling{}, true, first, second, appealed(day, day, 7, 2, true), appealed(day, day, 7, 2, false))
	}
}

// P10.1: many cases, in the order of their numbers.
func TestCasesInOrder(t *testing.T) {
	r := rand.New(rand.NewPCG(10, 1))
	var l []api.Fact
	var want []api.Ruling
	for i, number := range []int{1, 2, 3, 7, 9, 10, 11, 19, 20, 99, 100, 255, 256, 65535, 65536, lastCase - 1, lastCase} {
		f := ruled(lastDay-i, i*i%7, number, 1+i%3, pool()[i])
		l = append(l, f)
		if i%5 == 4 && i%3 < 2 {
			l = append(l, appealed(9, 9, number, 1+i%3, true))
			continue
		}
		want = append(want, f.Ruling)
	}
	for range 50 {
		expectInForce(t, shuffled(r, l), want...)
	}
}

// P10.1: numbers of cases that no fact can have, also if facts that are not valid have them. Some of these end with the
// same bits as numbers of cases that there are.
func TestImpossibleCases(t *testing.T) {
	l := []api.Fact{ruled(5, 5, 7, 1, annul(in)), appealed(5, 5, 7, 1, true), ruled(5, 5, 1, 1, nothing())}
	for _, number := range []int{-1, 0, lastCase + 1, lastCase + 7, -256, 1 << 32, math.MinInt, math.MinInt + 1, math.MaxInt} {
		for _, n := range []int{number, number - 255, number | 1<<32 | 1, number | 1<<32 | 7} {
			if 1 <= n && n <= lastCase {
				continue
			}
			l = append(l, ruled(0, 0, n, 3, annul(in)), ruled(5, 5, n, 1, nothing()), appealed(5, 5, n, 1, true))
			expectOf(t, l, n, api.Ruling{}, false)
			expectSuspended(t, l, n, false)
			expectInForce(t, l, l[2].Ruling)
		}
	}
	expectOf(t, l, 1, l[2].Ruling, true)
	expectSuspended(t, l, 7, true)
}

// The damaged facts are what they are meant to be: otherwise their tests would show little.
func TestDamages(t *testing.T) {
	l := []api.Fact{appealed(5, 5, 7, 1, true), appealed(5, 5, 1, 2, false)}
	for i, r := range append(pool(), kinds()...) {
		l = append(l, ruled(i, i%3, cases()[i%5], 1+i%3, r))
	}
	for _, f := range append(others(l...), l...) {
		if e := facts.Check(f); e != api.OK {
			t.Errorf("Check(%+v) = %d", f, e)
		}
	}
	for _, f := range l {
		for i, d := range damaged(f) {
			if facts.Check(d) == api.OK {
				t.Errorf("damage %d: %+v is valid", i, d)
			}
		}
	}
}

// P10.1: facts that are not valid are ignored, at the beginning, in the middle and at the end, as the only ruling of a
// case, as its last instance, as the one that was known first, and as the only appeal.
func TestDamagedCases(t *testing.T) {
	for _, r := range kinds() {
		first, appeal := ruled(5, 5, 7, 1, r), appealed(6, 6, 7, 1, true)
		for _, d := range slices.Concat(damaged(first), damaged(ruled(9, 9, 7, 2, r)), damaged(ruled(0, 0, 7, 1, r)), damaged(appeal)) {
			expectCase(t, 7, api.Ruling{}, false, d)
			expectCase(t, 7, api.Ruling{}, false, d, d, appeal)
			for at := range 2 {
				expectCase(t, 7, first.Ruling, false, with([]api.Fact{first}, at, d)...)
			}
			for at := range 3 {
				expectCase(t, 7, api.Ruling{}, true, with([]api.Fact{first, appeal}, at, d)...)
			}
		}
	}
}

// P10.1: facts of other kinds, also such as name a ruling, an appeal or all of them.
func TestOtherKindsOfFacts(t *testing.T) {
	first, second, appeal := ruled(5, 5, 7, 1, annul(in)), ruled(6, 6, 7, 2, nothing()), appealed(6, 6, 7, 2, true)
	for _, o := range others(first, second, appeal) {
		expectCase(t, 7, api.Ruling{}, false, o)
		expectCase(t, 7, first.Ruling, false, first, o)
		expectCase(t, 7, second.Ruling, false, first, o, second)
		expectCase(t, 7, api.Ruling{}, true, o, first, appeal, second)
	}
}

// P10.1: more facts than a ledger may have: a case has three rulings and two appeals, the last one of which suspends some.
func TestManyCases(t *testing.T) {
	r := rand.New(rand.NewPCG(10, 2))
	var l []api.Fact
	var want []api.Ruling
	for i := range mostFacts / 4 {
		number := 1 + i*61
		last := ruled(i, i, number, 2, fine(5, 1+i))
		l = append(l, last, ruled(0, 0, number, 1, annul(in)), ruled(i, i+1, number, 2, nothing()),
			appealed(i, i, number, 1, true), appealed(i, i, number, 2, i%3 == 0))
		if i%3 != 0 {
			want = append(want, last.Ruling)
		}
	}
	l = shuffled(r, l)
	if x := rulings.InForce(l); !slices.Equal(x, want) {
		t.Errorf("%d rulings in force, want %d", len(x), len(want))
	}
	for i := range 20 {
		number := 1 + i*61
		x, ok := rulings.Of(l, number)
		suspended := rulings.Suspended(l, number)
		if ok != (i%3 != 0) || suspended != (i%3 == 0) || ok && x != ruled(0, 0, number, 2, fine(5, 1+i)).Ruling {
			t.Errorf("Of(%d) = %+v, %t; suspended %t", number, x, ok, suspended)
		}
	}
}

// P10.1: drawn facts of all kinds, damaged and repeated ones, as the definition says.
func TestDrawnCases(t *testing.T) {
	r := rand.New(rand.NewPCG(10, 3))
	force, suspended := 0, 0
	for i := range 400 {
		l := drawn(r, i%50)
		compareCases(t, l)
		valid := counted(l)
		force += len(inForceOf(valid))
		for _, number := range cases() {
			if suspendedOf(valid, number) {
				suspended++
			}
		}
	}
	if force < 500 || suspended < 100 {
		t.Errorf("only %d rulings in force, and %d suspended cases", force, suspended)
	}
}

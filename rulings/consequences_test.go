package rulings_test

import (
	"math/rand/v2"
	"slices"
	"testing"

	"assize/api"
	"assize/facts"
	"assize/rulings"
)

// said is all that the package says of the cases that are drawn, and of what they are about.
type said struct {
	force     []api.Ruling
	suspended []bool
	games     []api.Ruling
	days      []int
	points    []int
	bans      []api.Interval
}

func saidOf(l []api.Fact) (x said) {
	x.force = rulings.InForce(l)
	for _, number := range cases() {
		x.suspended = append(x.suspended, rulings.Suspended(l, number))
	}
	for _, g := range games() {
		r, day, _ := rulings.OfGame(l, g)
		x.games, x.days = append(x.games, r), append(x.days, day)
		x.points = append(x.points, rulings.Points(l, g.Season, g.Comp, g.Home), rulings.Points(l, g.Season, g.Comp, g.Away))
	}
	for _, club := range []int{0, 5, 7, 191} {
		x.bans = append(append(x.bans, rulings.Bans(l, club)...), api.Interval{From: -1, To: club})
	}
	return x
}

func (x said) equals(y said) bool {
	return slices.Equal(x.force, y.force) && slices.Equal(x.suspended, y.suspended) && slices.Equal(x.games, y.games) &&
		slices.Equal(x.days, y.days) && slices.Equal(x.points, y.points) && slices.Equal(x.bans, y.bans)
}

// expectSame reports an error unless the package says the same of both lists, and the void rulings are the same.
func expectSame(t *testing.T, l, want []api.Fact) {
	t.Helper()
	if x, y := saidOf(l), saidOf(want); !x.equals(y) {
		t.Errorf("%+v, want %+v, of%s", x, y, brief(l))
	}
	expectVoid(t, l, voidOf(counted(want))...)
}

// few has two cases with a contradiction, a higher instance and an appeal.
func few() []api.Fact {
	return []api.Fact{
		ruled(9, 5, 7, 1, score(in, 2, 0)), ruled(4, 6, 7, 1, annul(in)), appealed(8, 8, 7, 1, true), ruled(3, 3, 7, 2, points(4, 2, 5, 3)),
		ruled(4, 6, 10, 1, forfeit(in, 5)), others()[2],
	}
}

// sequences yields every list of so many elements of l, with repetitions.
func sequences(l []api.Fact, many int, yield func(s []api.Fact)) {
	if many == 0 {
		yield(nil)
		return
	}
	sequences(l, many-1, func(s []api.Fact) {
		for _, f := range l {
			yield(append(slices.Clip(s), f))
		}
	})
}

// P10.4: every list of up to four of the facts, in any order and with any repetitions, says what its set says.
func TestOrderAndRepetition(t *testing.T) {
	l := few()
	type sets struct {
		said
		void []api.Digest
	}
	var all []sets
	for bits := range 1 << len(l) {
		var part []api.Fact
		for i, f := range l {
			if bits>>i&1 == 1 {
				part = append(part, f)
			}
		}
		compareCases(t, part)
		compareVoid(t, part)
		compareSubjects(t, part)
		void, _ := rulings.Void(part)
		all = append(all, sets{saidOf(part), void})
	}
	for many := range 5 {
		sequences(l, many, func(s []api.Fact) {
			bits := 0
			for i, f := range l {
				if slices.ContainsFunc(s, func(g api.Fact) bool { return facts.Same(f, g) }) {
					bits |= 1 << i
				}
			}
			void, e := rulings.Void(s)
			if x := saidOf(s); !x.equals(all[bits].said) || !slices.Equal(void, all[bits].void) || e != api.OK {
				t.Errorf("%+v, %x, want %+v, %x, of%s", x, void, all[bits].said, all[bits].void, brief(s))
			}
		})
	}
}

// P10.4: drawn facts in other orders, and with repetitions.
func TestDrawnOrders(t *testing.T) {
	r := rand.New(rand.NewPCG(10, 10))
	for i := range 100 {
		l := drawn(r, i%50+1)
		for range 3 {
			again := shuffled(r, append(slices.Clone(l), deepAll(l[:r.IntN(len(l))])...))
			expectSame(t, again, l)
		}
		again := slices.Clone(l)
		slices.SortFunc(again, facts.Compare)
		expectSame(t, again, l)
		slices.Reverse(again)
		expectSame(t, again, l)
	}
}

// P10.4: facts of other kinds have no effect, also if they name rulings and appeals, or if there are many of them.
func TestOtherFacts(t *testing.T) {
	r := rand.New(rand.NewPCG(10, 11))
	for i := range 100 {
		l := slices.DeleteFunc(drawn(r, i%50), func(f api.Fact) bool { return f.Kind != api.RulingF && f.Kind != api.AppealF })
		more := others(l...)
		expectSame(t, shuffled(r, append(slices.Clone(l), more...)), l)
		expectSame(t, with(l, r.IntN(len(l)+1), pick(r, more)), l)
		expectSame(t, more, nil)
	}
}

// P10.4: each case has at most one ruling in force, which is what Of returns; suspended cases have none.
func TestOneRulingOfEachCase(t *testing.T) {
	r := rand.New(rand.NewPCG(10, 12))
	for i := range 200 {
		l := drawn(r, i%80)
		force := rulings.InForce(l)
		for i, x := range force {
			if i > 0 && force[i-1].Case >= x.Case {
				t.Errorf("the case %d is behind the case %d", x.Case, force[i-1].Case)
			}
			if y, ok := rulings.Of(l, x.Case); y != x || !ok || rulings.Suspended(l, x.Case) {
				t.Errorf("Of(%d) = %+v, %t, want %+v", x.Case, y, ok, x)
			}
		}
		many := 0
		for _, number := range cases() {
			if _, ok := rulings.Of(l, number); ok {
				many++
			}
		}
		if many != len(force) {
			t.Errorf("%d cases have rulings in force, which are %d", many, len(force))
		}
	}
}

// P10.4: without some or all of the void rulings the same is in force.
func TestWithoutVoidRulings(t *testing.T) {
	r := rand.New(rand.NewPCG(10, 13))
	removed := 0
	for i := range 200 {
		l := drawn(r, i%80)
		void, _ := rulings.Void(l)
		for _, perCent := range []int{20, 50, 100} {
			var gone []api.Digest
			for _, id := range void {
				if r.IntN(100) < perCent {
					gone = append(gone, id)
				}
			}
			rest := slices.DeleteFunc(slices.Clone(l), func(f api.Fact) bool {
				id, e := facts.ID(f)
				return e == api.OK && slices.Contains(gone, id)
			})
			if x, y := saidOf(rest), saidOf(l); !x.equals(y) {
				t.Errorf("without %d void rulings: %+v, want %+v, of%s", len(gone), x, y, brief(l))
			}
			left, _ := rulings.Void(rest)
			if want := slices.DeleteFunc(slices.Clone(void), func(id api.Digest) bool { return slices.Contains(gone, id) }); !slices.Equal(left, want) {
				t.Errorf("void without %d of %d: %d", len(gone), len(void), len(left))
			}
			removed += len(gone)
		}
	}
	if removed < 500 {
		t.Errorf("only %d void rulings were removed", removed)
	}
}

// P10.4: a ruling of a higher instance ends every suspension by appeals against lower ones; only appeals against itself
// suspend it.
func TestHigherInstances(t *testing.T) {
	r := rand.New(rand.NewPCG(10, 14))
	ended := 0
	for i := range 300 {
		l := drawn(r, i%80)
		for _, number := range cases() {
			last := lastOf(counted(l), number)
			if last == 3 {
				continue
			}
			f := ruled(r.IntN(lastDay+1), r.IntN(lastDay+1), number, last+1, pick(r, pool()))
			if last == 0 || r.IntN(3) == 0 {
				f.Ruling.Instance = 3
			}
			all := with(l, r.IntN(len(l)+1), f)
			// An appeal against the higher instance may have been recorded before its ruling.
			suspended := slices.ContainsFunc(all, func(a api.Fact) bool {
				return facts.Check(a) == api.OK && a.Appeal == api.Appeal{Case: number, Instance: f.Ruling.Instance, Suspends: true}
			})
			expectSuspended(t, all, number, suspended)
			if suspended {
				expectOf(t, all, number, api.Ruling{}, false)
				continue
			}
			expectOf(t, all, number, f.Ruling, true)
			if rulings.Suspended(l, number) {
				ended++
			}
		}
	}
	if ended < 50 {
		t.Errorf("only %d suspensions have ended", ended)
	}
}

// P10.4: rulings and appeals of one case, beside others, have no effect on the rulings in force of these.
func TestCasesBesideOthers(t *testing.T) {
	r := rand.New(rand.NewPCG(10, 15))
	for i := range 100 {
		l := drawn(r, i%80)
		var apart []api.Ruling
		for _, number := range append(cases(), 3) {
			var own, rest []api.Fact
			for _, f := range l {
				if isAbout := f.Ruling.Case == number || f.Appeal.Case == number; isAbout {
					own = append(own, f)
				} else {
					rest = append(rest, f)
				}
			}
			apart = append(apart, rulings.InForce(own)...)
			want := slices.DeleteFunc(rulings.InForce(l), func(x api.Ruling) bool { return x.Case == number })
			expectInForce(t, rest, want...)
			added := rest
			for range 10 {
				f := drawnFact(r)
				*caseOf(&f) = number
				added = with(added, r.IntN(len(added)+1), f)
			}
			if x, ok := rulings.Of(added, number); ok {
				want = append(want, x)
				slices.SortFunc(want, func(a, b api.Ruling) int { return a.Case - b.Case })
			}
			expectInForce(t, added, want...)
		}
		slices.SortFunc(apart, func(a, b api.Ruling) int { return a.Case - b.Case })
		expectInForce(t, l, apart...)
	}
}

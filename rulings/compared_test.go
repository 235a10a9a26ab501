package rulings_test

import (
	"fmt"
	"slices"
	"strings"
	"testing"

	"assize/api"
	"assize/facts"
	"assize/rulings"
)

// The functions below call a function of the package with a list that shares no memory with the given one, and report an
// error unless it returns what is expected, and leaves the list as it was, and the space behind it too.

// brief has what the messages say of some facts: all of the rulings and the appeals, and of the others that they are there.
func brief(l []api.Fact) string {
	var b strings.Builder
	for _, f := range l {
		fmt.Fprintf(&b, "\n\tkind %d, day %d, known %d", f.Kind, f.Day, f.Known)
		if f.Ruling != (api.Ruling{}) {
			fmt.Fprintf(&b, ", ruling %+v", f.Ruling)
		}
		if f.Appeal != (api.Appeal{}) {
			fmt.Fprintf(&b, ", appeal %+v", f.Appeal)
		}
	}
	return b.String()
}

func expectInForce(t *testing.T, l []api.Fact, want ...api.Ruling) {
	t.Helper()
	arg, intact := guarded(l)
	if x := rulings.InForce(arg); !slices.Equal(x, want) || !intact() {
		t.Errorf("InForce = %+v, want %+v, intact %t, of%s", x, want, intact(), brief(l))
	}
}

func expectOf(t *testing.T, l []api.Fact, number int, want api.Ruling, wantOK bool) {
	t.Helper()
	arg, intact := guarded(l)
	if r, ok := rulings.Of(arg, number); r != want || ok != wantOK || !intact() {
		t.Errorf("Of(%d) = %+v, %t, want %+v, %t, intact %t, of%s", number, r, ok, want, wantOK, intact(), brief(l))
	}
}

func expectSuspended(t *testing.T, l []api.Fact, number int, want bool) {
	t.Helper()
	arg, intact := guarded(l)
	if ok := rulings.Suspended(arg, number); ok != want || !intact() {
		t.Errorf("Suspended(%d) = %t, want %t, intact %t, of%s", number, ok, want, intact(), brief(l))
	}
}

// expectVoid expects the identifiers of these facts.
func expectVoid(t *testing.T, l []api.Fact, want ...api.Fact) {
	t.Helper()
	arg, intact := guarded(l)
	if x, e := rulings.Void(arg); e != api.OK || !slices.Equal(x, identifiers(want)) || !intact() {
		t.Errorf("Void = %x, %d, want %x, intact %t, of%s", x, e, identifiers(want), intact(), brief(l))
	}
}

func identifiers(l []api.Fact) (x []api.Digest) {
	for _, f := range l {
		id, e := facts.ID(f)
		if e != api.OK {
			panic("not a valid fact")
		}
		x = append(x, id)
	}
	return x
}

func expectOfGame(t *testing.T, l []api.Fact, g api.Game, want api.Ruling, wantDay int, wantOK bool) {
	t.Helper()
	arg, intact := guarded(l)
	if r, day, ok := rulings.OfGame(arg, g); r != want || day != wantDay || ok != wantOK || !intact() {
		t.Errorf("OfGame(%+v) = %+v, %d, %t, want %+v, %d, %t, intact %t, of%s", g, r, day, ok, want, wantDay, wantOK, intact(), brief(l))
	}
}

func expectPoints(t *testing.T, l []api.Fact, season, comp, club, want int) {
	t.Helper()
	arg, intact := guarded(l)
	if n := rulings.Points(arg, season, comp, club); n != want || !intact() {
		t.Errorf("Points(%d, %d, %d) = %d, want %d, intact %t, of%s", season, comp, club, n, want, intact(), brief(l))
	}
}

func expectBans(t *testing.T, l []api.Fact, club int, want ...api.Interval) {
	t.Helper()
	arg, intact := guarded(l)
	if x := rulings.Bans(arg, club); !slices.Equal(x, want) || !intact() {
		t.Errorf("Bans(%d) = %+v, want %+v, intact %t, of%s", club, x, want, intact(), brief(l))
	}
}

// compareCases compares what is said of cases with the definition.
func compareCases(t *testing.T, l []api.Fact) {
	t.Helper()
	valid := counted(l)
	var force []api.Ruling
	for _, f := range inForceOf(valid) {
		force = append(force, f.Ruling)
	}
	expectInForce(t, l, force...)
	for _, number := range append(cases(), 0, 3) {
		f, ok := ofCase(valid, number)
		expectOf(t, l, number, f.Ruling, ok)
		expectSuspended(t, l, number, suspendedOf(valid, number))
	}
}

// compareVoid compares the void rulings with the definition.
func compareVoid(t *testing.T, l []api.Fact) {
	t.Helper()
	expectVoid(t, l, voidOf(counted(l))...)
}

// compareSubjects compares what is said of games and clubs with the definition.
func compareSubjects(t *testing.T, l []api.Fact) {
	t.Helper()
	valid := counted(l)
	for _, g := range append(games(), impossible()...) {
		f, ok := ofGame(valid, g)
		expectOfGame(t, l, g, f.Ruling, f.Day, ok)
		expectPoints(t, l, g.Season, g.Comp, g.Home, pointsOf(valid, g.Season, g.Comp, g.Home))
		expectPoints(t, l, g.Season, g.Comp, g.Away, pointsOf(valid, g.Season, g.Comp, g.Away))
	}
	for _, club := range []int{0, 5, 7, 191, 192, -1, 1} {
		expectBans(t, l, club, bansOf(valid, club)...)
	}
}

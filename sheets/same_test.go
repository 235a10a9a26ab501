package sheets_test

import (
	"math"
	"reflect"
	"slices"
	"testing"

	"assize/api"
	"assize/sheets"
)

// expectSame reports an error unless Same says of two sheets what is expected, in both orders, whoever wrote them, and with
// nil slices and empty ones.
func expectSame(t *testing.T, a, b api.Sheet, want bool) {
	t.Helper()
	referees := []int{0, 1, 2, -1, math.MaxInt}
	for i, referee := range referees {
		a.Referee, b.Referee = referee, referees[(i*i+1)%len(referees)]
		x, y := deep(api.Fact{Sheet: a}).Sheet, deep(api.Fact{Sheet: b}).Sheet
		if sheets.Same(a, b) != want || sheets.Same(b, a) != want || sheets.Same(x, b) != want || sheets.Same(y, a) != want {
			t.Errorf("Same(%+v, %+v) is not %t", a, b, want)
		}
		if !equal(a, x) || !equal(b, y) {
			t.Errorf("Same has changed %+v or %+v", a, b)
		}
	}
}

// P9.1: sheets that differ in one field alone, for each field, valid or not, do not say the same.
func TestSame(t *testing.T) {
	all := slices.Concat([]variant{{"none", full()}, {"all", api.Sheet{}}}, variants(), strange())
	for i, a := range all {
		for k, b := range all {
			expectSame(t, a.s, b.s, i == k)
		}
	}
}

// P9.1: in each field but Referee, sheets differ in that field alone.
func TestVariants(t *testing.T) {
	fields := map[string]int{}
	for _, v := range append(variants(), strange()...) {
		if d := differences(full(), v.s); !slices.Equal(d, []string{v.field}) {
			t.Errorf("%+v differs in %v, not in %s", v.s, d, v.field)
		}
		fields[v.field]++
	}
	for i := range reflect.TypeFor[api.Sheet]().NumField() {
		name := reflect.TypeFor[api.Sheet]().Field(i).Name
		if (name == "Referee") != (fields[name] == 0) {
			t.Errorf("%d sheets differ in %s", fields[name], name)
		}
	}
}

// P9.1: squads and cards are compared as lists.
func TestSameLists(t *testing.T) {
	a, b := full(), full()
	b.HomeSquad, b.AwaySquad = b.AwaySquad, b.HomeSquad
	expectSame(t, a, b, false)
	b = full()
	b.HomeCards, b.AwayCards = b.AwayCards, b.HomeCards
	expectSame(t, a, b, false)
	b = full()
	b.HomeGoals, b.AwayGoals, b.HomePens, b.AwayPens = b.AwayGoals, b.HomeGoals, b.AwayPens, b.HomePens
	expectSame(t, a, b, false)
	long := make([]int, 100000)
	a.HomeSquad, b = long, a
	b.HomeSquad = slices.Clone(long)
	expectSame(t, a, b, true)
	b.HomeSquad[99999] = 1
	expectSame(t, a, b, false)
	b.HomeSquad = long[:99999]
	expectSame(t, a, b, false)
}

package calendar_test

import (
	"math"
	"slices"
	"testing"

	"assize/api"
	"assize/calendar"
)

// days is how many days the intervals of the exhaustive tests are made of.
const days = 6

func span(from, to int) api.Interval { return api.Interval{From: from, To: to} }

func spans(ends ...int) []api.Interval {
	var l []api.Interval
	for pair := range slices.Chunk(ends, 2) {
		l = append(l, span(pair[0], pair[1]))
	}
	return l
}

// smallSpans has every valid interval of the first days.
func smallSpans() []api.Interval {
	var l []api.Interval
	for from := range days {
		for to := from; to < days; to++ {
			l = append(l, span(from, to))
		}
	}
	return l
}

// contains is the definition of an interval: the set of days from From to To.
func contains(i api.Interval, n int) bool { return i.From <= n && n <= i.To }

// invalid has intervals that are not valid, each for another reason.
func invalid() []api.Interval {
	return spans(2, 1, -1, 3, -2, -1, 0, api.MaxDay+1, api.MaxDay+1, api.MaxDay+1, api.MaxDay, 0,
		math.MinInt, math.MaxInt, math.MaxInt, math.MinInt, 0, math.MaxInt, math.MinInt, 0)
}

// P1.2: an interval is valid if both ends are days, in order.
func TestCheck(t *testing.T) {
	for _, i := range append(smallSpans(), spans(0, api.MaxDay, api.MaxDay, api.MaxDay, 0, 0)...) {
		if e := calendar.Check(i); e != api.OK {
			t.Errorf("Check(%v) = %d", i, e)
		}
	}
	for _, i := range invalid() {
		if e := calendar.Check(i); e != api.ErrDate {
			t.Errorf("Check(%v) = %d, want ErrDate", i, e)
		}
	}
}

// P1.2: Meet has exactly the days of both intervals.
func TestMeet(t *testing.T) {
	for _, a := range smallSpans() {
		for _, b := range smallSpans() {
			x, ok := calendar.Meet(a, b)
			some := false
			for n := range days {
				both := contains(a, n) && contains(b, n)
				some = some || both
				if ok && contains(x, n) != both {
					t.Errorf("Meet(%v, %v) = %v, wrong on day %d", a, b, x, n)
				}
			}
			if ok != some || !ok && x != span(0, 0) {
				t.Errorf("Meet(%v, %v) = %v, %t, want %t", a, b, x, ok, some)
			}
		}
	}
	if x, ok := calendar.Meet(span(0, api.MaxDay), span(api.MaxDay, api.MaxDay)); !ok || x != span(api.MaxDay, api.MaxDay) {
		t.Errorf("the last day: %v, %t", x, ok)
	}
}

// P1.2: what is not valid meets nothing, on either side, even where the days would overlap.
func TestMeetOfInvalid(t *testing.T) {
	for _, a := range invalid() {
		for _, b := range []api.Interval{span(0, api.MaxDay), span(1, 2), a} {
			if x, ok := calendar.Meet(a, b); ok || x != span(0, 0) {
				t.Errorf("Meet(%v, %v) = %v, %t", a, b, x, ok)
			}
			if x, ok := calendar.Meet(b, a); ok || x != span(0, 0) {
				t.Errorf("Meet(%v, %v) = %v, %t", b, a, x, ok)
			}
		}
	}
}

// P1.2: unions that are known; days that follow each other belong to one interval.
func TestUnion(t *testing.T) {
	for _, x := range []struct{ l, want []api.Interval }{
		{nil, nil},
		{[]api.Interval{}, nil},
		{spans(4, 4), spans(4, 4)},
		{spans(5, 6, 1, 2, 3, 3), spans(1, 3, 5, 6)},
		{spans(1, 2, 4, 5), spans(1, 2, 4, 5)},
		{spans(1, 2, 3, 5), spans(1, 5)},
		{spans(1, 9, 2, 3, 5, 5), spans(1, 9)},
		{spans(2, 3, 1, 9, 10, 10), spans(1, 10)},
		{spans(7, 9, 7, 8, 7, 7), spans(7, 9)},
		{spans(api.MaxDay, api.MaxDay, 0, 0), spans(0, 0, api.MaxDay, api.MaxDay)},
		{spans(api.MaxDay, api.MaxDay, 0, api.MaxDay-1), spans(0, api.MaxDay)},
	} {
		if u, e := calendar.Union(x.l); e != api.OK || !slices.Equal(u, x.want) {
			t.Errorf("Union(%v) = %v, %d, want %v", x.l, u, e, x.want)
		}
	}
}

// P1.2: an interval that is not valid is an error wherever it stands.
func TestUnionOfInvalid(t *testing.T) {
	for _, i := range invalid() {
		for _, l := range [][]api.Interval{{i}, {i, span(0, 1)}, {span(0, 1), i}, {span(0, 1), i, span(4, 5)}, {i, i}} {
			if u, e := calendar.Union(l); len(u) != 0 || e != api.ErrDate {
				t.Errorf("Union(%v) = %v, %d, want ErrDate", l, u, e)
			}
		}
	}
}

// separated reports whether the list is the one of its set of days.
func separated(l []api.Interval) bool {
	for k, i := range l {
		if calendar.Check(i) != api.OK || k > 0 && i.From-l[k-1].To < 2 {
			return false
		}
	}
	return true
}

// P1.2, P1.3: every list of three intervals has a separated union with the same days, which depends neither
// on order nor on repetition and is its own union; the arguments stay as they are (R2).
func TestEveryUnion(t *testing.T) {
	all := smallSpans()
	for _, a := range all {
		for _, b := range all {
			for _, c := range all {
				l := []api.Interval{a, b, c}
				u, e := calendar.Union(l)
				if e != api.OK || !separated(u) {
					t.Fatalf("Union(%v) = %v, %d", l, u, e)
				}
				if !slices.Equal(l, []api.Interval{a, b, c}) {
					t.Fatalf("Union has changed its argument to %v", l)
				}
				for n := -1; n <= days; n++ {
					in := contains(a, n) || contains(b, n) || contains(c, n)
					if calendar.In(n, l) != in || calendar.In(n, u) != in {
						t.Fatalf("Union(%v) = %v, day %d in an interval: %t", l, u, n, in)
					}
				}
				for _, m := range [][]api.Interval{{a, c, b}, {b, a, c}, {b, c, a}, {c, a, b}, {c, b, a}, {a, a, b, c, b}, u} {
					if v, e := calendar.Union(m); e != api.OK || !slices.Equal(v, u) {
						t.Fatalf("Union(%v) = %v, %d, want %v", m, v, e, u)
					}
				}
			}
		}
	}
}

// R2: a result stays as it was when it is united again, with more.
func TestUnionIsKept(t *testing.T) {
	first, _ := calendar.Union(spans(1, 2, 6, 7))
	if _, e := calendar.Union(append(first, span(3, 5))); e != api.OK {
		t.Fatal(e)
	}
	if want := spans(1, 2, 6, 7); !slices.Equal(first, want) {
		t.Errorf("a later union changed the result to %v", first)
	}
}

// P1.2: In takes all numbers and all lists as they are.
func TestIn(t *testing.T) {
	for _, x := range []struct {
		n    int
		l    []api.Interval
		want bool
	}{
		{0, nil, false},
		{3, spans(9, 9, 3, 4), true},
		{4, spans(9, 9, 3, 4), true},
		{9, spans(9, 9, 3, 4), true},
		{2, spans(9, 9, 3, 4), false},
		{5, spans(9, 9, 3, 4), false},
		{2, spans(3, 1), false},
		{3, spans(3, 1), false},
		{2, spans(3, 1, 2, 2), true},
		{-5, spans(-9, -1), true},
		{-10, spans(-9, -1), false},
		{api.MaxDay + 1, spans(0, api.MaxDay+1), true},
		{api.MaxDay + 1, spans(0, api.MaxDay), false},
		{math.MinInt, spans(math.MinInt, math.MaxInt), true},
		{math.MaxInt, spans(math.MinInt, math.MaxInt), true},
		{0, spans(math.MaxInt, math.MinInt), false},
	} {
		if ok := calendar.In(x.n, x.l); ok != x.want {
			t.Errorf("In(%d, %v) = %t", x.n, x.l, ok)
		}
	}
}

package money_test

import (
	"math"
	"slices"
	"testing"

	"assize/api"
	"assize/money"
)

// P5.1: an amount is at most 2^50, without its sign.
func TestCheck(t *testing.T) {
	if most != api.MaxAmount {
		t.Fatalf("MaxAmount is %d", api.MaxAmount)
	}
	for _, n := range amounts() {
		if e := money.Check(n); e != api.OK {
			t.Errorf("Check(%d) = %d", n, e)
		}
	}
	for _, n := range beyond() {
		if e := money.Check(n); e != api.ErrAmount {
			t.Errorf("Check(%d) = %d, want ErrAmount", n, e)
		}
	}
}

// P5.1: sums that are known; every beginning of them is an amount.
func TestSum(t *testing.T) {
	for _, x := range []struct {
		l    []int
		want int
	}{
		{nil, 0}, {[]int{}, 0}, {[]int{0}, 0}, {[]int{0, 0}, 0}, {[]int{7}, 7}, {[]int{-7}, -7}, {[]int{1, 2, 3}, 6}, {[]int{5, -9, 1}, -3},
		{[]int{most}, most}, {[]int{-most}, -most}, {[]int{most, 0}, most}, {[]int{0, -most}, -most},
		{[]int{most, -1, 1}, most}, {[]int{-most, 1, -1}, -most}, {[]int{most - 1, 1}, most}, {[]int{1 - most, -1}, -most},
		{[]int{most, -most}, 0}, {[]int{-most, most, most}, most}, {[]int{most, -most, -most}, -most},
		{[]int{most, -most, -most, most, most, -most, -most}, -most},
		{slices.Repeat([]int{1 << 40}, 1<<10), most}, {slices.Repeat([]int{-1 << 40}, 1<<10), -most},
		{slices.Repeat([]int{most, -most}, 1<<12), 0}, {slices.Repeat([]int{1}, 1<<16), 1 << 16},
	} {
		if n, e := money.Sum(x.l); n != x.want || e != api.OK {
			t.Errorf("Sum of %d amounts = %d, %d, want %d", len(x.l), n, e, x.want)
		}
	}
}

// P5.1: a beginning that is no amount is an error, whatever follows it.
func TestSumOfBeginnings(t *testing.T) {
	for _, l := range [][]int{
		{most, 1, -1}, {-most, -1, 1}, {most, 1}, {-most, -1}, {1, most}, {-1, -most}, {1, most, -most}, {-1, -most, most},
		{most, most, -most}, {-most, -most, most}, {most, most, -most, -most}, {0, most, 1, -most}, {most - 1, 2, -2},
		{most, -1, 2, -1}, {-most, 1, -2, 1}, slices.Repeat([]int{1 << 40}, 1<<10+1),
		// These sums wrap around to 0.
		slices.Repeat([]int{most}, 1<<14), slices.Repeat([]int{-most}, 1<<14),
	} {
		if n, e := money.Sum(l); n != 0 || e != api.ErrAmount {
			t.Errorf("Sum of %d amounts = %d, %d, want ErrAmount", len(l), n, e)
		}
	}
}

// P5.1: an element that is no amount is an error wherever it stands, also where the sum would be one.
func TestSumOfNoAmounts(t *testing.T) {
	for _, n := range beyond() {
		for _, l := range [][]int{
			{n}, {n, 0}, {0, n}, {n, -n}, {1, n}, {-1, n}, {most, n}, {-most, n}, {-most, n, most}, {most, n, -most},
			{n, n}, {n, n, n, n}, {1, 2, 3, n}, {most, 1, n}, {most - n, n}, {-n, n},
		} {
			if s, e := money.Sum(l); s != 0 || e != api.ErrAmount {
				t.Errorf("Sum(%d) = %d, %d, want ErrAmount", l, s, e)
			}
		}
	}
	for _, l := range [][]int{{math.MaxInt, math.MinInt, 1}, {math.MinInt, math.MinInt}, {math.MaxInt, math.MaxInt, 2}, {1 << 62, 1 << 62, 1 << 62, 1 << 62}} {
		if s, e := money.Sum(l); s != 0 || e != api.ErrAmount {
			t.Errorf("Sum(%d) = %d, %d, want ErrAmount", l, s, e)
		}
	}
}

// P5.1: lists that are drawn, from values among which errors are as frequent as sums, have the sums of the definition.
func TestSumsByDefinition(t *testing.T) {
	values := []int{0, 1, -1, 2, -2, most, -most, most - 1, 1 - most, most / 2, -most / 2, most + 1, -most - 1, math.MaxInt, math.MinInt}
	r := drawn()
	errors := 0
	for range 100000 {
		var l []int
		for range r.IntN(8) {
			if r.IntN(4) == 0 {
				l = append(l, drawnAmount(r))
			} else {
				l = append(l, values[r.IntN(len(values))])
			}
		}
		before := slices.Clone(l)
		n, e := money.Sum(l)
		if want, f := sumOf(l); n != want || e != f {
			t.Fatalf("Sum(%d) = %d, %d, want %d, %d", l, n, e, want, f)
		}
		if !slices.Equal(l, before) {
			t.Fatalf("Sum has changed %d to %d", before, l)
		}
		if e != api.OK {
			errors++
		}
	}
	if errors < 10000 || errors > 90000 {
		t.Errorf("%d lists of 100000 have errors", errors)
	}
}

// orders calls f with the list in each of its orders.
func orders(l []int, n int, f func(l []int)) {
	if n == len(l) {
		f(l)
		return
	}
	for i := n; i < len(l); i++ {
		l[n], l[i] = l[i], l[n]
		orders(l, n+1, f)
		l[n], l[i] = l[i], l[n]
	}
}

// P5.4: every order of a list has the same sum or an error; what a list is, is not always an error in all orders.
func TestSumOfAnyOrder(t *testing.T) {
	for _, x := range []struct {
		l    []int
		want int
	}{
		{[]int{1, 2, -3, 100, -50}, 50}, {[]int{most, most, -most, -most, 1}, 1}, {[]int{most, 1, -1, -1, 0}, most - 1},
		{[]int{-most, -1, 1, 2, -2}, -most}, {[]int{most / 2, most / 2, most / 2, -most, 3}, most/2 + 3},
	} {
		sums := 0
		orders(slices.Clone(x.l), 0, func(l []int) {
			n, e := money.Sum(l)
			if e == api.OK {
				sums++
			}
			if e == api.OK && n != x.want || e != api.OK && (e != api.ErrAmount || n != 0) {
				t.Errorf("Sum(%d) = %d, %d, want %d or ErrAmount", l, n, e, x.want)
			}
		})
		if sums == 0 {
			t.Errorf("no order of %d has a sum", x.l)
		}
	}
}

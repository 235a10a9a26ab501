package money_test

import (
	"math"
	"math/big"
	"slices"
	"testing"

	"assize/api"
	"assize/money"
)

func same(n, weight int) []int { return slices.Repeat([]int{weight}, n) }

func counting(from, to int) (l []int) {
	for n := from; n <= to; n++ {
		l = append(l, n)
	}
	return l
}

// P5.2: parts that are known.
func TestSplit(t *testing.T) {
	for _, x := range []struct {
		amount        int
		weights, want []int
	}{
		{100, []int{1, 1, 1}, []int{34, 33, 33}},
		{-5, []int{1, 3}, []int{-1, -4}},
		{1, []int{0, 5, 5}, []int{0, 1, 0}},
		{0, []int{3}, []int{0}}, {0, []int{0, 1000, 7}, []int{0, 0, 0}},
		{7, []int{1}, []int{7}}, {7, []int{1000}, []int{7}}, {-7, []int{999}, []int{-7}},
		{most, []int{1000}, []int{most}}, {-most, []int{1000}, []int{-most}}, {most, []int{1}, []int{most}},
		{most, []int{1, 1}, []int{most / 2, most / 2}}, {-most, []int{0, 0, 1000}, []int{0, 0, -most}},
		{most, []int{1000, 1000, 1000}, []int{375299968947542, 375299968947541, 375299968947541}},
		{-most, []int{1, 999, 1000}, []int{-562949953421, -562387003467891, -562949953421312}},
		{most - 1, []int{1000, 1}, []int{1124775131710912, 1124775131711}},
		{1, []int{1, 1}, []int{1, 0}}, {-1, []int{1, 1}, []int{-1, 0}}, {3, []int{1, 1}, []int{2, 1}},
		{2, []int{1, 1, 1}, []int{1, 1, 0}}, {-2, []int{1, 1, 1}, []int{-1, -1, 0}},
		// The greatest remainders come first, wherever they are.
		{10, []int{1, 2, 3, 1}, []int{2, 3, 4, 1}}, {10, []int{1, 1, 5}, []int{2, 1, 7}}, {5, []int{3, 1}, []int{4, 1}},
		{1, []int{1, 2}, []int{0, 1}}, {1, []int{1, 2, 2}, []int{0, 1, 0}}, {2, []int{1, 2, 2}, []int{0, 1, 1}},
		{1, []int{1, 1000}, []int{0, 1}}, {1, []int{0, 0, 1}, []int{0, 0, 1}}, {1, []int{999, 0, 1000}, []int{0, 0, 1}},
		// The greatest weight need not have the greatest remainder.
		{3, []int{3, 5, 5}, []int{1, 1, 1}}, {4, []int{7, 2, 1}, []int{3, 1, 0}}, {6, []int{5, 1, 3}, []int{3, 1, 2}},
		{1, same(256, 1), append([]int{1}, same(255, 0)...)}, {255, same(256, 1000), append(same(255, 1), 0)},
		{-256, same(256, 7), same(256, -1)}, {257, same(256, 7), append([]int{2}, same(255, 1)...)},
		{most, same(256, 1000), same(256, most/256)}, {most - 1, same(256, 1000), append(same(255, most/256), most/256-1)},
		{5, append(same(255, 0), 1), append(same(255, 0), 5)},
	} {
		if l, e := money.Split(x.amount, x.weights); !slices.Equal(l, x.want) || e != api.OK {
			t.Errorf("Split(%d, %d) = %d, %d, want %d", x.amount, x.weights, l, e, x.want)
		}
	}
}

// invalidWeights has weights by which nothing is divided.
func invalidWeights() [][]int {
	l := [][]int{nil, {}, {0}, {0, 0}, same(256, 0), same(257, 1), same(257, 0), same(300, 1000), same(1<<16, 1), append(same(256, 1), 0)}
	for _, w := range []int{-1, -2, -1000, 1001, 1002, 1 << 31, 1 << 32, 1 << 50, math.MaxInt, math.MinInt} {
		l = append(l, []int{w}, []int{w, 1}, []int{1, w}, []int{1, w, 1}, []int{0, w}, []int{w, w}, []int{w, -w}, []int{1000, w, 0},
			append(same(255, 1), w), []int{1 - w, w})
	}
	return append(l, []int{math.MaxInt, math.MaxInt, 3}, []int{math.MinInt, math.MinInt, 1}, []int{1001, -1})
}

// P5.2, R1: what Split refuses, the amount before the weights.
func TestSplitOfWrongArguments(t *testing.T) {
	for _, weights := range invalidWeights() {
		for _, amount := range []int{0, 1, 7, -7, most, -most} {
			if l, e := money.Split(amount, weights); len(l) != 0 || e != api.ErrArg {
				t.Errorf("Split(%d, %d) = %d, %d, want ErrArg", amount, weights, l, e)
			}
		}
		for _, amount := range beyond() {
			if l, e := money.Split(amount, weights); len(l) != 0 || e != api.ErrAmount {
				t.Errorf("Split(%d, %d) = %d, %d, want ErrAmount", amount, weights, l, e)
			}
		}
	}
	for _, weights := range [][]int{{1}, {1, 2, 3}, {1000, 0}, same(256, 1000)} {
		for _, amount := range beyond() {
			if l, e := money.Split(amount, weights); len(l) != 0 || e != api.ErrAmount {
				t.Errorf("Split(%d, %d) = %d, %d, want ErrAmount", amount, weights, l, e)
			}
		}
	}
}

// eachWeights calls f with every list of up to n weights of which none is greater than the given one, and not all are 0.
func eachWeights(n, greatest int, f func(weights []int)) {
	var extend func(weights []int)
	extend = func(weights []int) {
		if len(weights) > 0 && slices.Max(weights) > 0 {
			f(weights)
		}
		for w := 0; len(weights) < n && w <= greatest; w++ {
			extend(append(slices.Clip(weights), w))
		}
	}
	extend(nil)
}

// eachDivision calls f with amounts and weights that are drawn, up to the limits, and with weights at the limits.
func eachDivision(f func(amount int, weights []int)) {
	r := drawn()
	for range 3000 {
		weights := make([]int, 1+r.IntN(1<<r.IntN(9)))
		greatest := 1 + r.IntN(1000)>>r.IntN(10)
		for i := range weights {
			weights[i] = r.IntN(greatest + 1)
		}
		weights[r.IntN(len(weights))] = greatest
		f(drawnAmount(r), weights)
	}
	for _, weights := range [][]int{{1}, {1000}, {1000, 1}, {0, 1}, {1000, 0, 1000}, {1, 999}, counting(0, 255), counting(745, 1000), same(256, 1), same(256, 1000)} {
		for _, amount := range amounts() {
			f(amount, weights)
		}
	}
}

// P5.2: all small amounts and weights, and drawn ones, are divided as defined; the weights stay as they are (R2).
func TestSplitsByDefinition(t *testing.T) {
	check := func(amount int, weights []int) {
		before := slices.Clone(weights)
		l, e := money.Split(amount, weights)
		if want := splitOf(amount, weights); !slices.Equal(l, want) || e != api.OK {
			t.Fatalf("Split(%d, %d) = %d, %d, want %d", amount, weights, l, e, want)
		}
		if !slices.Equal(weights, before) {
			t.Fatalf("Split has changed the weights %d to %d", before, weights)
		}
	}
	eachWeights(4, 3, func(weights []int) {
		for amount := -13; amount <= 13; amount++ {
			check(amount, weights)
		}
	})
	eachDivision(check)
}

// P5.4: the parts add up to the amount, have its sign, and differ from the exact parts by less than a cent.
func checkParts(t *testing.T, amount int, weights, l []int) {
	t.Helper()
	if len(l) != len(weights) {
		t.Fatalf("%d weights get %d parts", len(weights), len(l))
	}
	sum, total := new(big.Int), new(big.Int)
	for i, part := range l {
		sum.Add(sum, bigOf(part))
		total.Add(total, bigOf(weights[i]))
		if part < 0 && amount >= 0 || part > 0 && amount <= 0 || weights[i] == 0 && part != 0 {
			t.Fatalf("Split(%d, %d) has the part %d of the weight %d", amount, weights, part, weights[i])
		}
	}
	if sum.Cmp(bigOf(amount)) != 0 {
		t.Fatalf("the parts of Split(%d, %d) add up to %s", amount, weights, sum)
	}
	for i, part := range l {
		exact := new(big.Int).Mul(bigOf(amount), bigOf(weights[i]))
		difference := exact.Sub(exact, new(big.Int).Mul(bigOf(part), total))
		if difference.CmpAbs(total) >= 0 {
			t.Fatalf("Split(%d, %d) has the part %d of the weight %d, a cent or more beside the exact one", amount, weights, part, weights[i])
		}
	}
}

func magnitude(n int) int { return max(n, -n) }

// P5.4: equal weights get parts that differ by a cent at most, of which the first ones are not the smaller ones, and
// greater weights never get less.
func checkOrder(t *testing.T, amount int, weights, l []int) {
	t.Helper()
	for i, part := range l {
		for k, other := range l[:i] {
			a, b := magnitude(other), magnitude(part)
			if weights[k] == weights[i] && (a < b || a > b+1) || weights[k] > weights[i] && a < b || weights[k] < weights[i] && a > b {
				t.Fatalf("Split(%d, %d) has the parts %d and %d of the weights %d and %d", amount, weights, other, part, weights[k], weights[i])
			}
		}
	}
}

// P5.4: weights that are all multiplied by the same number lead to the same parts, and so does the other sign.
func checkMultiples(t *testing.T, amount int, weights, l []int) {
	t.Helper()
	for _, k := range []int{2, 3, 7, 1000 / slices.Max(weights)} {
		multiplied := slices.Clone(weights)
		for i := range multiplied {
			multiplied[i] *= k
		}
		if slices.Max(multiplied) > 1000 {
			continue
		}
		if m, e := money.Split(amount, multiplied); !slices.Equal(m, l) || e != api.OK {
			t.Fatalf("Split(%d, %d) = %d, %d, but with weights %d times as great %d", amount, weights, l, e, k, m)
		}
	}
	negated, e := money.Split(-amount, weights)
	for i := range negated {
		negated[i] = -negated[i]
	}
	if !slices.Equal(negated, l) || e != api.OK {
		t.Fatalf("Split(%d, %d) is not the negated Split(%d)", amount, weights, -amount)
	}
}

// P5.4: the consequences, for all small amounts and weights, and for drawn ones.
func TestConsequences(t *testing.T) {
	check := func(amount int, weights []int) {
		l, e := money.Split(amount, weights)
		if e != api.OK {
			t.Fatalf("Split(%d, %d): %d", amount, weights, e)
		}
		checkParts(t, amount, weights, l)
		checkOrder(t, amount, weights, l)
		checkMultiples(t, amount, weights, l)
	}
	eachWeights(4, 4, func(weights []int) {
		for amount := -11; amount <= 11; amount++ {
			check(amount, weights)
		}
	})
	eachDivision(check)
}

// R2: parts stay as they were when more is divided.
func TestPartsAreKept(t *testing.T) {
	first, _ := money.Split(100, []int{1, 1, 1})
	second, _ := money.Split(-7, []int{5, 1, 3})
	if !slices.Equal(first, []int{34, 33, 33}) || !slices.Equal(second, []int{-4, -1, -2}) {
		t.Errorf("the parts are %d and %d", first, second)
	}
	second[0] = 9
	if third, _ := money.Split(-7, []int{5, 1, 3}); !slices.Equal(third, []int{-4, -1, -2}) {
		t.Errorf("the parts are %d after a change of earlier ones", third)
	}
}

// P5.2: parts per thousand that are known, rounded towards 0.
func TestPart(t *testing.T) {
	for _, x := range []struct{ amount, perThousand, want int }{
		{-1999, 500, -999}, {1999, 500, 999}, {1999, 0, 0}, {-1999, 0, 0}, {1999, 1000, 1999}, {-1999, 1000, -1999},
		{0, 0, 0}, {0, 1000, 0}, {0, 500, 0}, {1, 999, 0}, {-1, 999, 0}, {999, 1, 0}, {-999, 1, 0}, {1000, 1, 1}, {-1000, 1, -1},
		{1001, 999, 999}, {-1001, 999, -999}, {1999, 1, 1}, {-1999, 1, -1}, {2, 500, 1}, {3, 500, 1}, {-3, 500, -1},
		{most, 1000, most}, {-most, 1000, -most}, {most, 0, 0}, {most, 500, most / 2}, {-most, 500, -most / 2},
		{most, 1, 1125899906842}, {-most, 1, -1125899906842}, {most, 999, 1124774006935781}, {-most, 999, -1124774006935781},
	} {
		if n, e := money.Part(x.amount, x.perThousand); n != x.want || e != api.OK {
			t.Errorf("Part(%d, %d) = %d, %d, want %d", x.amount, x.perThousand, n, e, x.want)
		}
	}
}

// P5.2: every number of parts per thousand is that of the definition.
func TestPartsByDefinition(t *testing.T) {
	r := drawn()
	for perThousand := range 1001 {
		for _, amount := range append(amounts(), drawnAmount(r), drawnAmount(r), drawnAmount(r), drawnAmount(r)) {
			if n, e := money.Part(amount, perThousand); n != partOf(amount, perThousand) || e != api.OK {
				t.Fatalf("Part(%d, %d) = %d, %d, want %d", amount, perThousand, n, e, partOf(amount, perThousand))
			}
		}
	}
}

// P5.2, R1: what Part refuses, the amount before the parts per thousand.
func TestPartOfWrongArguments(t *testing.T) {
	for _, perThousand := range []int{-1, -2, -1000, 1001, 1002, 1 << 32, -1 << 32, math.MaxInt, math.MinInt} {
		for _, amount := range amounts() {
			if n, e := money.Part(amount, perThousand); n != 0 || e != api.ErrArg {
				t.Errorf("Part(%d, %d) = %d, %d, want ErrArg", amount, perThousand, n, e)
			}
		}
		for _, amount := range beyond() {
			if n, e := money.Part(amount, perThousand); n != 0 || e != api.ErrAmount {
				t.Errorf("Part(%d, %d) = %d, %d, want ErrAmount", amount, perThousand, n, e)
			}
		}
	}
	for _, perThousand := range []int{0, 1, 500, 1000} {
		for _, amount := range beyond() {
			if n, e := money.Part(amount, perThousand); n != 0 || e != api.ErrAmount {
				t.Errorf("Part(%d, %d) = %d, %d, want ErrAmount", amount, perThousand, n, e)
			}
		}
	}
}

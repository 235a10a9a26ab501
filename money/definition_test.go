package money_test

import (
	"math"
	"math/big"
	"math/rand/v2"
	"regexp"
	"strings"

	"assize/api"
)

// What the chapter defines, with integers of any size.

const most = 1 << 50 // MaxAmount, as the chapter writes it

func bigOf(n int) *big.Int { return big.NewInt(int64(n)) }

func isAmount(n *big.Int) bool { return n.CmpAbs(bigOf(most)) <= 0 }

// sumOf is Sum by its definition.
func sumOf(l []int) (int, api.Errno) {
	sum := new(big.Int)
	for _, n := range l {
		if !isAmount(bigOf(n)) || !isAmount(sum.Add(sum, bigOf(n))) {
			return 0, api.ErrAmount
		}
	}
	return int(sum.Int64()), api.OK
}

// splitOf is Split by its definition, for arguments without errors: the cents are given away one by one.
func splitOf(amount int, weights []int) []int {
	total := new(big.Int)
	for _, w := range weights {
		total.Add(total, bigOf(w))
	}
	left := new(big.Int).Abs(bigOf(amount))
	var parts, remainders []*big.Int
	for _, w := range weights {
		product := new(big.Int).Mul(new(big.Int).Abs(bigOf(amount)), bigOf(w))
		quotient, remainder := new(big.Int).QuoRem(product, total, new(big.Int))
		parts, remainders = append(parts, quotient), append(remainders, remainder)
		left.Sub(left, quotient)
	}
	for ; left.Sign() > 0; left.Sub(left, bigOf(1)) {
		next := 0
		for i, r := range remainders {
			if r.Cmp(remainders[next]) > 0 {
				next = i
			}
		}
		parts[next].Add(parts[next], bigOf(1))
		remainders[next] = bigOf(-1)
	}
	var l []int
	for _, p := range parts {
		if amount < 0 {
			p.Neg(p)
		}
		l = append(l, int(p.Int64()))
	}
	return l
}

// partOf is Part by its definition, for arguments without errors: Quo rounds towards 0.
func partOf(amount, perThousand int) int {
	product := new(big.Int).Mul(bigOf(amount), bigOf(perThousand))
	return int(product.Quo(product, bigOf(1000)).Int64())
}

// shape is that of the texts of amounts, with those of greater numbers and with -0.00.
var shape = regexp.MustCompile(`\A-?(0|[1-9][0-9]*)\.[0-9][0-9]\z`)

// parseOf is Parse by its definition.
func parseOf(s string) (int, api.Errno) {
	if !shape.MatchString(s) || s == "-0.00" {
		return 0, api.ErrAmount
	}
	n, ok := new(big.Int).SetString(strings.ReplaceAll(s, ".", ""), 10)
	if !ok || !isAmount(n) {
		return 0, api.ErrAmount
	}
	return int(n.Int64()), api.OK
}

// textOf is Text by its definition, for an amount.
func textOf(n int) string {
	whole, cents := new(big.Int).QuoRem(new(big.Int).Abs(bigOf(n)), bigOf(100), new(big.Int))
	s := whole.String() + "." + strings.Repeat("0", 2-len(cents.String())) + cents.String()
	if n < 0 {
		return "-" + s
	}
	return s
}

// beyond has integers that are no amounts, on both sides.
func beyond() []int {
	return []int{most + 1, -most - 1, most + 2, -most - 2, most + 100, -most - 100, 1 << 51, -1 << 51, 1 << 62, -1 << 62,
		math.MaxInt, math.MinInt, math.MaxInt - 1, math.MinInt + 1, math.MaxInt32 << 30, math.MinInt32 << 30}
}

// amounts has amounts of every size, on both sides.
func amounts() (l []int) {
	for _, n := range []int{0, 1, 2, 3, 5, 7, 9, 10, 11, 99, 100, 101, 999, 1000, 1001, 1999, 65537, 123456, 1 << 31, 1 << 32, 1<<49 + 1, most - 1001, most - 1, most} {
		l = append(l, n, -n)
	}
	return l
}

func drawn() *rand.Rand { return rand.New(rand.NewPCG(5, 50)) }

// drawnAmount has amounts of every length alike, on both sides.
func drawnAmount(r *rand.Rand) int {
	n := int(r.Int64N(most+1)) >> r.IntN(51)
	if r.IntN(2) == 0 {
		return -n
	}
	return n
}

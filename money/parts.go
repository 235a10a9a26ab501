package money

import (
	"cmp"
	"iter"
	"slices"
)

const (
	maxWeights = 256
	maxWeight  = 1000
)

// areWeights reports whether an amount can be divided in proportion to a list.
func areWeights(l []int) bool {
	if len(l) < 1 || len(l) > maxWeights {
		return false
	}
	return slices.Min(l) >= 0 && slices.Max(l) >= 1 && slices.Max(l) <= maxWeight
}

// remainder is what the division for the weight with an index leaves.
type remainder struct {
	index, left int
}

// compare orders remainders as the cents that are left are given to them.
func (r remainder) compare(s remainder) int {
	return cmp.Or(cmp.Compare(s.left, r.left), cmp.Compare(r.index, s.index))
}

// parts yields the parts of an amount that is not negative, in the order of the weights.
func parts(amount int, weights []int) iter.Seq[int] {
	return func(yield func(part int) bool) {
		var collected [maxWeights]int
		var remainders []remainder
		total := totalOf(weights)
		cents := amount
		for i, w := range weights {
			collected[i] = amount * w / total
			cents -= collected[i]
			remainders = append(remainders, remainder{index: i, left: amount * w % total})
		}
		slices.SortFunc(remainders, remainder.compare)
		// The remainders add up to total for each cent, and each is less than that. So there are enough above 0:
		// none is given two cents, and a weight of 0 is given none.
		for _, r := range remainders[:cents] {
			collected[r.index]++
		}
		for _, part := range collected[:len(weights)] {
			if !yield(part) {
				return
			}
		}
	}
}

func totalOf(weights []int) (total int) {
	for _, w := range weights {
		total += w
	}
	return total
}

package ledger

import "iter"

// merged yields the elements of two increasing lists in order, each once, and whether the first list has them.
func merged[E any](a, b []E, compare func(a, b E) int) iter.Seq2[E, bool] {
	return func(yield func(x E, first bool) bool) {
		a, b := a, b
		for len(a) > 0 || len(b) > 0 {
			var x E
			n := compareFirst(a, b, compare)
			if n >= 0 {
				x, b = b[0], b[1:]
			}
			if n <= 0 {
				x, a = a[0], a[1:]
			}
			if !yield(x, n <= 0) {
				return
			}
		}
	}
}

// compareFirst compares the first elements of two lists. If one list is empty, the element of the other one comes first.
func compareFirst[E any](a, b []E, compare func(a, b E) int) int {
	switch {
	case len(b) == 0:
		return -1
	case len(a) == 0:
		return 1
	}
	return compare(a[0], b[0])
}

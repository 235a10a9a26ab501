package sheets

import (
	"cmp"
	"slices"

	"assize/api"
)

// compareGames orders games.
func compareGames(a, b api.Game) int {
	return cmp.Or(
		cmp.Compare(a.Season, b.Season), cmp.Compare(a.Comp, b.Comp),
		cmp.Compare(a.Home, b.Home), cmp.Compare(a.Away, b.Away),
	)
}

// inOrder returns the keys of a map whose values are wanted, in order.
func inOrder[K comparable, V any](m map[K]V, wanted func(x V) bool, compare func(a, b K) int) (l []K) {
	for k, x := range m {
		if wanted(x) {
			l = append(l, k)
		}
	}
	slices.SortFunc(l, compare)
	return l
}

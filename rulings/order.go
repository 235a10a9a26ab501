package rulings

import (
	"cmp"
	"maps"
	"slices"
	"strings"

	"assize/api"
	"assize/facts"
)

// inOrder returns the values of a map in the order of their keys.
func inOrder[K comparable, V any](m map[K]V, compare func(a, b K) int) []V {
	l := make([]V, 0, len(m))
	for _, k := range slices.SortedFunc(maps.Keys(m), compare) {
		l = append(l, m[k])
	}
	return l
}

// key is what facts.Compare compares of valid rulings, and what is different if they are. Rulings are sorted by their
// keys, because facts.Compare would encode each of them again and again.
type key struct {
	known, day int
	encoding   string
}

// keyOf returns the key of a valid ruling.
func keyOf(f *api.Fact) key {
	b, _ := facts.Encode(*f)
	return key{known: f.Known, day: f.Day, encoding: string(b)}
}

// compare orders keys as facts.Compare orders their facts.
func (a key) compare(b key) int {
	return cmp.Or(cmp.Compare(a.known, b.known), cmp.Compare(a.day, b.day), strings.Compare(a.encoding, b.encoding))
}

package digest_test

import (
	"math"
	"math/rand/v2"
	"slices"
	"testing"

	"assize/api"
	"assize/digest"
)

// growthOf is the growth G of the chapter.
func growthOf(l []api.Digest, n int, whole bool) []api.Digest {
	if n == len(l) {
		if whole {
			return nil
		}
		return []api.Digest{treeOf(l)}
	}
	k := half(len(l))
	if n <= k {
		return append(growthOf(l[:k], n, whole), treeOf(l[k:]))
	}
	return append(growthOf(l[k:], n-k, false), treeOf(l[:k]))
}

// pairOf is the calculation V of the chapter, with the digests of p that it leaves.
func pairOf(before api.Digest, n, m int, whole bool, p []api.Digest) (x, y api.Digest, rest []api.Digest, ok bool) {
	if n == m && whole {
		return before, before, p, true
	}
	if n == m {
		if len(p) == 0 {
			return x, y, nil, false
		}
		return p[0], p[0], p[1:], true
	}
	k := half(m)
	if n <= k {
		x, y, rest, ok = pairOf(before, n, k, whole, p)
	} else {
		x, y, rest, ok = pairOf(before, n-k, m-k, false, p)
	}
	if !ok || len(rest) == 0 {
		return x, y, nil, false
	}
	if n <= k {
		return x, tagged("node", y, rest[0]), rest[1:], true
	}
	return tagged("node", rest[0], x), tagged("node", rest[0], y), rest[1:], true
}

// grewOf is Grew by its definition.
func grewOf(before, after api.Digest, n, m int, p []api.Digest) bool {
	if n < 1 || n > m || m > 1<<40 {
		return false
	}
	x, y, rest, ok := pairOf(before, n, m, true, p)
	return ok && len(rest) == 0 && x == before && y == after
}

// P3.3, P3.4: each growth is that of the definition, and is accepted for the two digests.
func TestGrowAndGrew(t *testing.T) {
	l := drawnDigests(66)
	for m := 1; m <= len(l); m++ {
		for n := 1; n <= m; n++ {
			checkGrowth(t, l[:m], n)
		}
	}
}

// P3.3, P3.4: the same for long lists: from one element, from all, from k, and around k.
func TestGrowAndGrewOfLongLists(t *testing.T) {
	l := drawnDigests(1000)
	for _, m := range lengths() {
		k := half(m)
		for _, n := range []int{1, 2, k / 2, k - 1, k, k + 1, m/2 + 1, m - 1, m} {
			if n <= m {
				checkGrowth(t, l[:m], n)
			}
		}
	}
}

func checkGrowth(t *testing.T, l []api.Digest, n int) {
	t.Helper()
	m := len(l)
	p, e := digest.Grow(l, n)
	if e != api.OK || !slices.Equal(p, growthOf(l, n, true)) || len(p) > 41 {
		t.Errorf("Grow from %d to %d elements: %d digests, %d", n, m, len(p), e)
	}
	if !digest.Grew(digest.Tree(l[:n]), digest.Tree(l), n, m, p) {
		t.Errorf("the growth from %d to %d elements is not accepted", n, m)
	}
}

// P3.3: a growth has a beginning and an end that are not empty, and no beginning is longer than the list.
func TestGrowOfWrongNumbers(t *testing.T) {
	l := drawnDigests(17)
	for m := range len(l) + 1 {
		for _, n := range []int{0, -1, m + 1, m + 2, 2*m + 1, math.MinInt, math.MaxInt} {
			if p, e := digest.Grow(l[:m], n); len(p) != 0 || e != api.ErrArg {
				t.Errorf("Grow(%d elements, %d) has %d digests, %d, want ErrArg", m, n, len(p), e)
			}
		}
	}
}

// P3.3: a list that has not grown is shown by nothing, and the digests must be equal.
func TestGrewOfTheSameList(t *testing.T) {
	l := drawnDigests(20)
	for n := 1; n < len(l); n++ {
		p, e := digest.Grow(l[:n], n)
		if len(p) != 0 || e != api.OK {
			t.Errorf("Grow of %d elements from all of them has %d digests, %d", n, len(p), e)
		}
	}
	d := l[0]
	for _, n := range []int{1, 2, 3, 7, 8, 9, 1000, 1<<40 - 1, 1 << 40} {
		if !digest.Grew(d, d, n, n, nil) || !digest.Grew(d, d, n, n, []api.Digest{}) {
			t.Errorf("a list of %d elements does not begin with itself", n)
		}
		if digest.Grew(d, flipped(d, n), n, n, nil) || digest.Grew(d, d, n, n, []api.Digest{d}) {
			t.Errorf("a list of %d elements begins with another one, or is shown by too much", n)
		}
	}
}

// P3.3: numbers of elements that are none, whatever the growth is.
func TestGrewOfWrongNumbers(t *testing.T) {
	l := drawnDigests(43)
	d := l[0]
	for k := range len(l) + 1 {
		for _, x := range [][2]int{
			{0, 0}, {0, 1}, {0, 2}, {-1, -1}, {-1, 1}, {-1, 0}, {2, 1}, {3, 2}, {9, 8}, {1, 0}, {1, -1},
			{1, 1<<40 + 1}, {1 << 40, 1<<40 + 1}, {1<<40 + 1, 1<<40 + 1}, {1<<40 + 1, 1 << 40}, {1 << 41, 1 << 41},
			{1, 1 << 41}, {1, math.MaxInt}, {math.MaxInt, math.MaxInt}, {math.MinInt, math.MinInt},
			{math.MinInt, math.MaxInt}, {math.MaxInt, math.MinInt}, {math.MinInt, 1}, {1, math.MinInt}, {math.MaxInt, 1},
		} {
			if digest.Grew(d, d, x[0], x[1], l[:k]) {
				t.Errorf("Grew accepts %d digests from %d to %d elements", k, x[0], x[1])
			}
		}
	}
}

// P3.3: whatever is changed in a growth that is accepted, the definition decides.
func TestGrewOfWrongGrowths(t *testing.T) {
	l := drawnDigests(18)
	for m := 1; m <= len(l); m++ {
		for n := 1; n <= m; n++ {
			before, after := digest.Tree(l[:n]), digest.Tree(l[:m])
			p, _ := digest.Grow(l[:m], n)
			bit := 29*m + n
			if digest.Grew(flipped(before, bit), after, n, m, p) || digest.Grew(before, flipped(after, bit), n, m, p) {
				t.Errorf("from %d to %d elements, another list is accepted", n, m)
			}
			if n < m && digest.Grew(after, before, n, m, p) || digest.Grew(before, after, n, m, append(slices.Clone(p), l[0])) {
				t.Errorf("from %d to %d elements, lists the other way round or too many digests are accepted", n, m)
			}
			for i := range p {
				other := slices.Clone(p)
				other[i] = flipped(p[i], bit+i)
				if digest.Grew(before, after, n, m, other) || digest.Grew(before, after, n, m, slices.Delete(slices.Clone(p), i, i+1)) {
					t.Errorf("from %d to %d elements, the growth is accepted with another digest %d, or without it", n, m, i)
				}
			}
		}
	}
}

// P3.3: a growth that is given for other numbers of elements is accepted exactly if the calculation succeeds.
func TestGrewOfOtherNumbers(t *testing.T) {
	l := drawnDigests(12)
	seen := map[bool]int{}
	for m := 1; m <= len(l); m++ {
		for n := 1; n <= m; n++ {
			before, after := digest.Tree(l[:n]), digest.Tree(l[:m])
			p, _ := digest.Grow(l[:m], n)
			for b := range len(l) + 1 {
				for a := range len(l) + 1 {
					want := grewOf(before, after, a, b, p)
					if ok := digest.Grew(before, after, a, b, p); ok != want {
						t.Errorf("Grew accepts the growth from %d to %d for %d to %d: %t", n, m, a, b, ok)
					}
					seen[want]++
				}
			}
		}
	}
	if seen[true] < 78 || seen[false] < 1000 {
		t.Errorf("the test compares %d growths that are accepted, %d that are not", seen[true], seen[false])
	}
}

// P3.3, P3.4: lists of up to 2^40 elements, which only a calculation can have; the first digest is free if it is that of
// the list on its way, and otherwise calculated from the growth.
func TestGrewOfHugeLists(t *testing.T) {
	l := drawnDigests(45)
	r := rand.New(rand.NewPCG(5, 6))
	pairs := [][2]int{{1, 1 << 40}, {1 << 39, 1 << 40}, {1<<39 + 1, 1 << 40}, {1<<40 - 1, 1 << 40}, {1<<39 - 1, 1 << 40}, {1<<40 - 2, 1<<40 - 1}, {1 << 39, 1<<39 + 1}, {1, 1<<39 + 1}}
	for range 100 {
		m := 2 + r.IntN(1<<(2+r.IntN(39))-1)
		pairs = append(pairs, [2]int{1 + r.IntN(m-1), m})
	}
	for _, x := range pairs {
		n, m := x[0], x[1]
		accepted := 0
		for k := range len(l) + 1 {
			before, _, _, _ := pairOf(l[0], n, m, true, l[:k])
			_, after, rest, ok := pairOf(before, n, m, true, l[:k])
			want := ok && len(rest) == 0
			if digest.Grew(before, after, n, m, l[:k]) != want {
				t.Errorf("Grew with %d digests from %d to %d elements: not %t", k, n, m, want)
			}
			if want {
				accepted++
				if digest.Grew(flipped(before, k), after, n, m, l[:k]) || digest.Grew(before, flipped(after, k), n, m, l[:k]) {
					t.Errorf("from %d to %d elements, another list is accepted", n, m)
				}
			}
			if want && k > 41 {
				t.Errorf("the growth from %d to %d elements has %d digests", n, m, k)
			}
		}
		if accepted != 1 {
			t.Errorf("from %d to %d elements, growths of %d lengths are accepted", n, m, accepted)
		}
	}
}

// P3.4: there is a path of 40 digests and a growth of 41, and no longer ones.
func TestLongestPathAndGrowth(t *testing.T) {
	l := drawnDigests(41)
	if _, e := digest.Climb(l[0], 0, 1<<40, l[:40]); e != api.OK {
		t.Errorf("a path of 40 digests: %d", e)
	}
	x, y, rest, ok := pairOf(api.Digest{}, 1<<40-1, 1<<40, true, l)
	if !ok || len(rest) > 0 || !digest.Grew(x, y, 1<<40-1, 1<<40, l) {
		t.Error("a growth of 41 digests is not accepted")
	}
}

package digest_test

import (
	"encoding/hex"
	"math"
	"slices"
	"testing"

	"assize/api"
	"assize/digest"
)

// drawnDigests has different digests that are the same in every run.
func drawnDigests(n int) []api.Digest {
	var l []api.Digest
	for i := range n {
		l = append(l, api.Digest(drawnBytes(32 + i)[:32]))
	}
	return l
}

// flipped has one other bit.
func flipped(d api.Digest, bit int) api.Digest {
	d[bit/8%len(d)] ^= 1 << (bit % 8)
	return d
}

// half is the greatest power of 2 less than n.
func half(n int) int {
	k := 1
	for 2*k < n {
		k *= 2
	}
	return k
}

// treeOf, pathOf and climbOf are the definitions of the chapter.
func treeOf(l []api.Digest) api.Digest {
	switch len(l) {
	case 0:
		return tagged("empty")
	case 1:
		return tagged("leaf", l[0])
	}
	k := half(len(l))
	return tagged("node", treeOf(l[:k]), treeOf(l[k:]))
}

func pathOf(l []api.Digest, at int) []api.Digest {
	if len(l) == 1 {
		return nil
	}
	k := half(len(l))
	if at < k {
		return append(pathOf(l[:k], at), treeOf(l[k:]))
	}
	return append(pathOf(l[k:], at-k), treeOf(l[:k]))
}

func climbOf(d api.Digest, at, n int, p []api.Digest) (x api.Digest, rest []api.Digest, ok bool) {
	if n == 1 {
		return tagged("leaf", d), p, true
	}
	k := half(n)
	first := at < k
	if first {
		x, rest, ok = climbOf(d, at, k, p)
	} else {
		x, rest, ok = climbOf(d, at-k, n-k, p)
	}
	if !ok || len(rest) == 0 {
		return x, nil, false
	}
	if first {
		return tagged("node", x, rest[0]), rest[1:], true
	}
	return tagged("node", rest[0], x), rest[1:], true
}

// lengths has the numbers of elements that the tests of long lists take: powers of 2, one less and one more.
func lengths() []int { return []int{63, 64, 65, 127, 128, 129, 255, 256, 257, 511, 512, 513, 1000} }

// P3.2: digests of lists that are known, of the digests that consist of ones, of twos, and so on.
func TestKnownTrees(t *testing.T) {
	var l []api.Digest
	for n, want := range []string{
		"30475fdab42aa9ac12475ebdb9def3bacfa5af69251f4b2e95f366fd09cee787",
		"927f260b1095a9974548d5cf2394b447111bfe1119f11aecfc7661719391e617",
		"d9a033fa6ccefc3915dc0cd8d18af211d095ee642b0f87c62fc19b4afcd97002",
		"b95a84a51bf505dec34ef86ccceb0170a69e5d49f2b2f662408df4810b26c356",
		"bfd4cf70beb625dc211ef0038c817f9cdca4e7b666c336dfddd58fc84be03a7a",
		"20b9ad37e4dab47823a952ea9b9bb838a793bf9124355f5d2be6bca72b8d791f",
		"ec8e70e62c97b8b35d3d62516b4ffb77776c9fb0ea525b6f3f588d18eed05959",
		"acb14cb5b63ad6f38f4f1a416b833025c6f5123166d7294dbb1fa05e34e6c3a4",
		"187adbb41e36ca3bcbba076cbb2f5764aef6951da97fc654507cb563761d0265",
	} {
		d := digest.Tree(l)
		if got := hex.EncodeToString(d[:]); got != want {
			t.Errorf("Tree of %d elements = %s, want %s", n, got, want)
		}
		var more api.Digest
		for i := range more {
			more[i] = byte(n + 1)
		}
		l = append(l, more)
	}
}

// P3.2: the digest of a list of each length is that of the definition.
func TestTree(t *testing.T) {
	l := drawnDigests(1000)
	for n := range 70 {
		if d, want := digest.Tree(l[:n]), treeOf(l[:n]); d != want {
			t.Errorf("Tree of %d elements = %x, want %x", n, d, want)
		}
	}
	for _, n := range lengths() {
		if d, want := digest.Tree(l[:n]), treeOf(l[:n]); d != want {
			t.Errorf("Tree of %d elements = %x, want %x", n, d, want)
		}
	}
	if digest.Tree(nil) != digest.Tree([]api.Digest{}) || digest.Tree(nil) != digest.Tagged("empty", nil) {
		t.Error("the digests of empty lists differ")
	}
}

// P3.2: other lists have other digests, also lists of the digests of a tree's parts.
func TestTreesAreApart(t *testing.T) {
	l := drawnDigests(9)
	seen := map[api.Digest]int{}
	add := func(l []api.Digest) {
		d := digest.Tree(l)
		if i, is := seen[d]; is {
			t.Errorf("list %d has the digest of list %d", len(seen), i)
		}
		seen[d] = len(seen)
	}
	for n := range len(l) + 1 {
		add(l[:n])
		for i := range n {
			other := slices.Clone(l[:n])
			other[i] = flipped(other[i], 9*n+i)
			add(other)
		}
		if n > 1 {
			add([]api.Digest{digest.Tree(l[:half(n)]), digest.Tree(l[half(n):n])})
			add([]api.Digest{digest.Tree(l[:n])})
		}
		if n > 2 {
			backwards := slices.Clone(l[:n])
			slices.Reverse(backwards)
			add(backwards)
		}
	}
	add(make([]api.Digest, 1))
	add(make([]api.Digest, 2))
}

// P3.2, P3.4: each element of a list of each length has the path of the definition, and leads back to the digest.
func TestPathAndClimb(t *testing.T) {
	l := drawnDigests(70)
	for n := 1; n <= len(l); n++ {
		root := treeOf(l[:n])
		for at := range n {
			checkPath(t, l[:n], at, root)
		}
	}
}

// P3.2, P3.4: the same for some elements of long lists.
func TestPathAndClimbOfLongLists(t *testing.T) {
	l := drawnDigests(1000)
	for _, n := range lengths() {
		root := treeOf(l[:n])
		for _, at := range []int{0, 1, n / 2, half(n) - 1, half(n), n - 2, n - 1} {
			// Below a power of 2, half(n) may be the last index.
			if at < n {
				checkPath(t, l[:n], at, root)
			}
		}
	}
}

func checkPath(t *testing.T, l []api.Digest, at int, root api.Digest) {
	t.Helper()
	n := len(l)
	p, e := digest.Path(l, at)
	if e != api.OK || !slices.Equal(p, pathOf(l, at)) || len(p) > 41 {
		t.Errorf("Path of element %d of %d: %d digests, %d", at, n, len(p), e)
	}
	if d, e := digest.Climb(l[at], at, n, p); d != root || e != api.OK {
		t.Errorf("Climb from element %d of %d = %x, %d, want %x", at, n, d, e, root)
	}
}

// P3.2: an index that is none.
func TestPathOfNoIndex(t *testing.T) {
	l := drawnDigests(9)
	for n := range len(l) + 1 {
		for _, at := range []int{-1, n, n + 1, 16, -n - 1, math.MinInt, math.MaxInt} {
			if p, e := digest.Path(l[:n], at); len(p) != 0 || e != api.ErrArg {
				t.Errorf("Path(%d elements, %d) has %d digests, %d, want ErrArg", n, at, len(p), e)
			}
		}
	}
	if p, e := digest.Path(nil, 0); len(p) != 0 || e != api.ErrArg {
		t.Errorf("Path(no elements, 0) has %d digests, %d, want ErrArg", len(p), e)
	}
}

func refusesClimb(t *testing.T, at, n int, p []api.Digest) {
	t.Helper()
	if x, e := digest.Climb(api.Digest{1}, at, n, p); x != (api.Digest{}) || e != api.ErrArg {
		t.Errorf("Climb(element %d of %d, %d digests) = %x, %d, want ErrArg", at, n, len(p), x, e)
	}
}

// P3.2: numbers of elements and indices that are none, whatever the path is.
func TestClimbOfNoElement(t *testing.T) {
	l := drawnDigests(45)
	for n := range len(l) + 1 {
		p := l[:n]
		for _, many := range []int{0, -1, 1<<40 + 1, 1 << 41, math.MinInt, math.MaxInt, -1 << 40, 1<<62 + 1} {
			for _, at := range []int{0, 1, -1, many - 1, many, many / 2, math.MinInt, math.MaxInt} {
				refusesClimb(t, at, many, p)
			}
		}
		for _, many := range []int{1, 2, 3, 8, 9, 1<<40 - 1, 1 << 40} {
			for _, at := range []int{-1, many, many + 1, math.MinInt, math.MaxInt} {
				refusesClimb(t, at, many, p)
			}
		}
	}
}

// P3.2: a path has exactly as many digests as its element asks for.
func TestClimbOfPathsOfEachLength(t *testing.T) {
	l := drawnDigests(45)
	d := l[0]
	for _, n := range []int{1, 2, 3, 4, 5, 6, 7, 8, 9, 15, 16, 17, 1000, 1<<39 + 1, 1<<40 - 1, 1 << 40} {
		for _, at := range []int{0, 1, 2, 3, n / 3, half(n) - 1, half(n), n - 2, n - 1} {
			if at < 0 || at >= n {
				continue
			}
			accepted := 0
			for k := range len(l) + 1 {
				want, rest, ok := climbOf(d, at, n, l[:k])
				if !ok || len(rest) > 0 {
					refusesClimb(t, at, n, l[:k])
					continue
				}
				if x, e := digest.Climb(d, at, n, l[:k]); x != want || e != api.OK {
					t.Errorf("Climb(element %d of %d, %d digests) = %x, %d, want %x", at, n, k, x, e, want)
				}
				accepted++
			}
			if accepted != 1 {
				t.Errorf("for element %d of %d, paths of %d lengths are accepted", at, n, accepted)
			}
		}
	}
	refusesClimb(t, 0, 2, nil)
	if x, e := digest.Climb(d, 0, 1, nil); x != digest.Tree([]api.Digest{d}) || e != api.OK {
		t.Errorf("Climb of the only element = %x, %d", x, e)
	}
}

// P3.2: every part of the arguments counts.
func TestClimbOfWrongElements(t *testing.T) {
	l := drawnDigests(13)
	root := digest.Tree(l)
	for at, d := range l {
		p, _ := digest.Path(l, at)
		if x, e := digest.Climb(flipped(d, 11*at), at, len(l), p); x == root || e != api.OK {
			t.Errorf("another element at %d leads to %x, %d", at, x, e)
		}
		for i := range p {
			other := slices.Clone(p)
			other[i] = flipped(p[i], 17*i+at)
			if x, e := digest.Climb(d, at, len(l), other); x == root || e != api.OK {
				t.Errorf("another digest %d in the path of element %d leads to %x, %d", i, at, x, e)
			}
		}
		for other := range l {
			if x, _ := digest.Climb(d, other, len(l), p); x == root && other != at {
				t.Errorf("the path of element %d is accepted for %d", at, other)
			}
		}
	}
}

// R2: no function changes its arguments.
func TestDigestsAreKept(t *testing.T) {
	l := drawnDigests(40)
	before := slices.Clone(l)
	for n := 1; n <= 30; n++ {
		digest.Tree(l[:n])
		for at := range n {
			p, _ := digest.Path(l[:n], at)
			kept := slices.Clone(p)
			digest.Climb(l[at], at, n, p)
			g, _ := digest.Grow(l[:n], at+1)
			grown := slices.Clone(g)
			digest.Grew(digest.Tree(l[:at+1]), digest.Tree(l[:n]), at+1, n, g)
			digest.Path(l[:n], at)
			if !slices.Equal(p, kept) || !slices.Equal(g, grown) || !slices.Equal(l, before) {
				t.Fatalf("with element %d of %d, something has changed", at, n)
			}
		}
	}
}

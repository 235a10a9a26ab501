package digest

import (
	"math/bits"
	"slices"

	"assize/api"
)

// maxElements is the greatest number of elements that a list may be said to have.
const maxElements = 1 << 40

// Tree returns the digest of a list of digests.
func Tree(l []api.Digest) (d api.Digest) {
	if len(l) == 0 {
		return Tagged("empty", nil)
	}
	h := newHasher()
	return h.tree(l)
}

// Path returns the path of an element to the digest of the list.
func Path(l []api.Digest, at int) (p []api.Digest, e api.Errno) {
	if at < 0 || at >= len(l) {
		return nil, api.ErrArg
	}
	h := newHasher()
	for len(l) > 1 {
		k := split(len(l))
		if at < k {
			p = append(p, h.tree(l[k:]))
			l = l[:k]
		} else {
			p = append(p, h.tree(l[:k]))
			l, at = l[k:], at-k
		}
	}
	// A path begins at its element, not at the digest of the list.
	slices.Reverse(p)
	return p, api.OK
}

// Climb returns the digest of a list of n elements from one element and its path.
func Climb(d api.Digest, at, n int, p []api.Digest) (x api.Digest, e api.Errno) {
	if n < 1 || n > maxElements || at < 0 || at >= n || len(p) != pathLength(at, n) {
		return api.Digest{}, api.ErrArg
	}
	h := newHasher()
	return h.climb(d, at, n, p), api.OK
}

// split returns how many of n > 1 elements are in the first part of their list.
func split(n int) int { return 1 << (bits.Len(uint(n-1)) - 1) }

// pathLength returns the number of digests in the path of an element.
func pathLength(at, n int) int {
	length := 0
	for n > 1 {
		k := split(n)
		if at < k {
			n = k
		} else {
			n, at = n-k, at-k
		}
		length++
	}
	return length
}

// hasher makes the digests of a tree. It keeps the hashes of the tags, which Tagged would calculate for each of them.
type hasher struct {
	leafTag, nodeTag api.Digest
}

func newHasher() hasher {
	return hasher{leafTag: Sum([]byte("leaf")), nodeTag: Sum([]byte("node"))}
}

// leaf returns the digest of the list of one element.
func (h *hasher) leaf(d api.Digest) api.Digest { return hash(h.leafTag[:], d[:]) }

// node returns the digest of a list from the digests of its two parts.
func (h *hasher) node(first, others api.Digest) api.Digest {
	return hash(h.nodeTag[:], first[:], others[:])
}

// tree returns the digest of a list that is not empty.
func (h *hasher) tree(l []api.Digest) api.Digest {
	if len(l) == 1 {
		return h.leaf(l[0])
	}
	k := split(len(l))
	return h.node(h.tree(l[:k]), h.tree(l[k:]))
}

// climb returns the digest of a list of n elements, with a path that is as long as it has to be.
func (h *hasher) climb(d api.Digest, at, n int, p []api.Digest) api.Digest {
	if n == 1 {
		return h.leaf(d)
	}
	k := split(n)
	last := len(p) - 1
	if at < k {
		return h.node(h.climb(d, at, k, p[:last]), p[last])
	}
	return h.node(p[last], h.climb(d, at-k, n-k, p[:last]))
}

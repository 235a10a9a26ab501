package digest

import "assize/api"

// Grow returns what shows that a list of digests has a beginning of n elements.
func Grow(l []api.Digest, n int) (p []api.Digest, e api.Errno) {
	if n < 1 || n > len(l) {
		return nil, api.ErrArg
	}
	h := newHasher()
	var walk func(l []api.Digest, n int, whole bool)
	walk = func(l []api.Digest, n int, whole bool) {
		if n == len(l) {
			if !whole {
				p = append(p, h.tree(l))
			}
			return
		}
		k := split(len(l))
		if n <= k {
			walk(l[:k], n, whole)
			p = append(p, h.tree(l[k:]))
		} else {
			walk(l[k:], n-k, false)
			p = append(p, h.tree(l[:k]))
		}
	}
	walk(l, n, true)
	return p, api.OK
}

// Grew verifies that a list with the digest after, of m elements, begins with one with the digest before, of n elements.
func Grew(before, after api.Digest, n, m int, p []api.Digest) (ok bool) {
	if n < 1 || n > m || m > maxElements || len(p) != growthLength(n, m) {
		return false
	}
	h := newHasher()
	next := func() api.Digest {
		z := p[0]
		p = p[1:]
		return z
	}
	// The closure returns the digests of the first n and of all m elements.
	var walk func(n, m int, whole bool) (x, y api.Digest)
	walk = func(n, m int, whole bool) (x, y api.Digest) {
		if n == m {
			if whole {
				return before, before
			}
			z := next()
			return z, z
		}
		k := split(m)
		if n <= k {
			x, y = walk(n, k, whole)
			return x, h.node(y, next())
		}
		x, y = walk(n-k, m-k, false)
		z := next()
		return h.node(z, x), h.node(z, y)
	}
	x, y := walk(n, m, true)
	return x == before && y == after
}

// growthLength returns the number of digests in the growth from n elements of a list of m elements.
func growthLength(n, m int) int {
	length := 0
	whole := true
	for n < m {
		k := split(m)
		if n <= k {
			m = k
		} else {
			n, m, whole = n-k, m-k, false
		}
		length++
	}
	if !whole {
		length++
	}
	return length
}

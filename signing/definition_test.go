package signing_test

import (
	"crypto/sha3"
	"math/rand/v2"
	"slices"
	"testing"

	"assize/api"
	"assize/digest"
	"assize/signing"
)

// What the chapter defines, with the hash function of the standard library.

func taggedOf(tag string, parts ...[]byte) api.Digest {
	domain := sha3.Sum256([]byte(tag))
	return sha3.Sum256(slices.Concat(domain[:], slices.Concat(parts...)))
}

func twoBytes(i int) []byte { return []byte{byte(i / 256), byte(i % 256)} }

func secretOf(seed []byte, i, j, b int) api.Digest {
	return taggedOf("secret", seed, twoBytes(i), []byte{byte(j), byte(b)})
}

func openOf(secret api.Digest) api.Digest { return taggedOf("open", secret[:]) }

func oneOf(hash func(j, b int) api.Digest) api.Digest {
	var all []byte
	for j := range 64 {
		for b := range 2 {
			d := hash(j, b)
			all = append(all, d[:]...)
		}
	}
	return taggedOf("one", all)
}

// onesOf has the one-time public keys of a key.
func onesOf(seed []byte, many int) (l []api.Digest) {
	for i := range many {
		l = append(l, oneOf(func(j, b int) api.Digest { return openOf(secretOf(seed, i, j, b)) }))
	}
	return l
}

func bitsOf(public api.Digest, index int, msg []byte) (l []bool) {
	d := taggedOf("message", public[:], twoBytes(index), msg)
	for _, c := range d[:8] {
		for mask := 128; mask > 0; mask /= 2 {
			l = append(l, int(c)&mask != 0)
		}
	}
	return l
}

func valueOf(bit bool) int {
	if bit {
		return 1
	}
	return 0
}

// signatureOf is the signature by the one-time key i under a public key, with a path.
func signatureOf(seed []byte, i int, public api.Digest, path []api.Digest, msg []byte) api.Signature {
	s := api.Signature{Index: i, Path: path}
	for j, bit := range bitsOf(public, i, msg) {
		b := valueOf(bit)
		s.Opened = append(s.Opened, secretOf(seed, i, j, b))
		s.Closed = append(s.Closed, openOf(secretOf(seed, i, j, 1-b)))
	}
	return s
}

// verifyOf is Verify by its definition.
func verifyOf(public api.Digest, many int, msg []byte, s api.Signature) bool {
	if many < 1 || many > 4096 || s.Index < 0 || s.Index > many-1 || len(s.Opened) != 64 || len(s.Closed) != 64 || len(msg) > 65536 {
		return false
	}
	bits := bitsOf(public, s.Index, msg)
	one := oneOf(func(j, b int) api.Digest {
		if valueOf(bits[j]) == b {
			return openOf(s.Opened[j])
		}
		return s.Closed[j]
	})
	x, e := digest.Climb(one, s.Index, many, s.Path)
	return e == api.OK && x == public
}

// madeUp returns a public key, and what shows that it has a one-time key with this index among many: a path that is
// made up, so that keys with numbers that no key can have are made, too.
func madeUp(seed []byte, i, many int) (public api.Digest, path []api.Digest) {
	one := oneOf(func(j, b int) api.Digest { return openOf(secretOf(seed, i, j, b)) })
	for n := range 42 {
		if x, e := digest.Climb(one, i, many, path); e == api.OK {
			return x, path
		}
		path = append(path, taggedOf("made up", twoBytes(n)))
	}
	return one, nil
}

func sameSignature(a, b api.Signature) bool {
	return a.Index == b.Index && slices.Equal(a.Opened, b.Opened) && slices.Equal(a.Closed, b.Closed) && slices.Equal(a.Path, b.Path)
}

func sameKey(a, b api.Key) bool {
	return a.Many == b.Many && a.Used == b.Used && slices.Equal(a.Seed, b.Seed)
}

func copied(s api.Signature) api.Signature {
	return api.Signature{Index: s.Index, Opened: slices.Clone(s.Opened), Closed: slices.Clone(s.Closed), Path: slices.Clone(s.Path)}
}

// flipped has another value of one bit.
func flipped(d api.Digest, bit int) api.Digest {
	d[bit/8%len(d)] ^= 1 << (bit % 8)
	return d
}

// drawnBytes has bytes that are the same in every run.
func drawnBytes(n int) []byte {
	r := rand.New(rand.NewPCG(4, uint64(n)))
	b := make([]byte, n)
	for i := range b {
		b[i] = byte(r.Uint32())
	}
	return b
}

func newKey(t *testing.T, seed []byte, many int) api.Key {
	t.Helper()
	k, e := signing.New(seed, many)
	if e != api.OK {
		t.Fatalf("New(%d bytes, %d): %d", len(seed), many, e)
	}
	return k
}

func publicKey(t *testing.T, k api.Key) api.Digest {
	t.Helper()
	d, e := signing.Public(k)
	if e != api.OK {
		t.Fatalf("Public(%d bytes, %d, %d): %d", len(k.Seed), k.Many, k.Used, e)
	}
	return d
}

// invalidKeys has keys with one fault each, or with more of them.
func invalidKeys() (l []api.Key) {
	const low, high = -1 << 63, 1<<63 - 1
	for _, n := range []int{0, 65, 66, 128, 1000} {
		l = append(l, api.Key{Seed: make([]byte, n), Many: 1}, api.Key{Seed: make([]byte, n), Many: 4096, Used: 4096})
	}
	for _, many := range []int{0, -1, 4097, 4098, 8192, 1 << 40, low, high} {
		l = append(l, api.Key{Seed: []byte("seed"), Many: many}, api.Key{Seed: []byte("seed"), Many: many, Used: many})
		l = append(l, api.Key{Seed: []byte("seed"), Many: many, Used: 1}, api.Key{Many: many})
	}
	for _, used := range []int{-1, 3, 4, 4096, low, high} {
		l = append(l, api.Key{Seed: []byte("seed"), Many: 2, Used: used})
	}
	return append(l, api.Key{}, api.Key{Seed: make([]byte, 64), Many: 4096, Used: 4097}, api.Key{Seed: make([]byte, 64), Many: 4096, Used: -4096})
}

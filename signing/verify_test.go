package signing_test

import (
	"math"
	"slices"
	"testing"

	"assize/api"
	"assize/signing"
)

// genuine returns a signature of a message by a key, and its public key.
func genuine(t *testing.T, k api.Key, msg []byte) (public api.Digest, s api.Signature) {
	t.Helper()
	_, s, e := signing.Sign(k, msg)
	public = publicKey(t, k)
	if e != api.OK || !signing.Verify(public, k.Many, msg, s) || !verifyOf(public, k.Many, msg, s) {
		t.Fatalf("the signature with %d of %d does not verify", k.Used, k.Many)
	}
	return public, s
}

// smallKeys has each one-time key of some keys.
func smallKeys() (l []api.Key) {
	for _, many := range []int{1, 2, 3, 5, 8} {
		for used := range many {
			l = append(l, api.Key{Seed: []byte("small"), Many: many, Used: used})
		}
	}
	return l
}

// P4.3: keys that only a calculation can have: Verify asks for no more than the definition does.
func TestVerifyOfMadeUpKeys(t *testing.T) {
	for _, many := range []int{1, 2, 3, 255, 256, 257, 1000, 4095, 4096} {
		for _, i := range []int{0, many / 3, many / 2, many - 1} {
			for _, msg := range [][]byte{nil, []byte("abc"), drawnBytes(65536)} {
				public, path := madeUp([]byte("made up"), i, many)
				s := signatureOf([]byte("made up"), i, public, path, msg)
				if !signing.Verify(public, many, msg, s) {
					t.Errorf("a signature of %d bytes with %d of %d does not verify", len(msg), i, many)
				}
			}
		}
	}
}

// P4.3: numbers that no key has, and messages that are too long, although everything else fits.
func TestVerifyBeyondTheLimits(t *testing.T) {
	seed := []byte("made up")
	for _, x := range [][2]int{{0, 4097}, {4095, 4097}, {4096, 4097}, {0, 8192}, {5000, 8192}, {0, 1 << 16}, {65535, 1 << 16}, {0, 1 << 40}, {4095, 1 << 40}} {
		public, path := madeUp(seed, x[0], x[1])
		if s := signatureOf(seed, x[0], public, path, nil); signing.Verify(public, x[1], nil, s) {
			t.Errorf("a signature with %d of %d verifies", x[0], x[1])
		}
	}
	for _, n := range []int{65537, 65538, 1 << 20} {
		msg := drawnBytes(n)
		public, path := madeUp(seed, 1, 4)
		if s := signatureOf(seed, 1, public, path, msg); signing.Verify(public, 4, msg, s) {
			t.Errorf("a signature of %d bytes verifies", n)
		}
	}
}

// P4.3: numbers that are none, and indices that are none, whatever the rest is.
func TestVerifyOfWrongNumbers(t *testing.T) {
	for _, k := range smallKeys() {
		public, s := genuine(t, k, []byte("abc"))
		for _, many := range []int{0, -1, -k.Many, 4097, 1 << 40, 1<<40 + 1, math.MinInt, math.MaxInt} {
			if signing.Verify(public, many, []byte("abc"), s) {
				t.Errorf("a signature with %d of %d verifies for %d", k.Used, k.Many, many)
			}
		}
		for _, index := range []int{-1, k.Many, k.Many + 1, s.Index + 4096, s.Index + 65536, s.Index - 65536, 4095, 4096, math.MinInt, math.MaxInt} {
			other := copied(s)
			other.Index = index
			if signing.Verify(public, k.Many, []byte("abc"), other) {
				t.Errorf("a signature with %d of %d verifies with the index %d", k.Used, k.Many, index)
			}
		}
	}
	if signing.Verify(api.Digest{}, 1, nil, api.Signature{}) || signing.Verify(api.Digest{}, 0, nil, api.Signature{}) {
		t.Error("a signature of nothing verifies")
	}
}

// P4.3: a signature that is given for other numbers verifies exactly if the definition says so; a path may lead to the
// same digest in a list of another length.
func TestVerifyOfOtherNumbers(t *testing.T) {
	seen := map[bool]int{}
	for _, k := range smallKeys() {
		public, s := genuine(t, k, nil)
		for many := range 18 {
			for index := range 10 {
				other := copied(s)
				other.Index = index
				want := verifyOf(public, many, nil, other)
				if ok := signing.Verify(public, many, nil, other); ok != want {
					t.Errorf("a signature with %d of %d verifies with %d of %d: %t", k.Used, k.Many, index, many, ok)
				}
				if want && index != k.Used {
					t.Errorf("a signature with %d of %d verifies with the index %d", k.Used, k.Many, index)
				}
				seen[want]++
			}
		}
	}
	if seen[true] <= len(smallKeys()) || seen[false] < 1000 {
		t.Errorf("the test has %d signatures that verify, %d that do not", seen[true], seen[false])
	}
}

// P4.3: a signature has as many elements as it has to have.
func TestVerifyOfWrongLengths(t *testing.T) {
	for _, k := range smallKeys() {
		public, s := genuine(t, k, nil)
		for i, list := range []func(s *api.Signature) *[]api.Digest{
			func(s *api.Signature) *[]api.Digest { return &s.Opened },
			func(s *api.Signature) *[]api.Digest { return &s.Closed },
			func(s *api.Signature) *[]api.Digest { return &s.Path },
		} {
			all := *list(&s)
			for _, l := range [][]api.Digest{
				nil, append(slices.Clone(all), api.Digest{}), append([]api.Digest{{}}, all...), slices.Concat(all, all), make([]api.Digest, 1000),
				all[:len(all)/2], all[:max(len(all)-1, 0)], all[min(1, len(all)):],
			} {
				if len(l) == len(all) {
					continue // the path of the only element is empty
				}
				other := copied(s)
				*list(&other) = l
				if signing.Verify(public, k.Many, nil, other) {
					t.Errorf("a signature with %d of %d verifies with %d elements in list %d", k.Used, k.Many, len(l), i)
				}
			}
		}
		none := api.Signature{Index: s.Index, Path: s.Path}
		if signing.Verify(public, k.Many, nil, none) {
			t.Errorf("a signature with %d of %d verifies without Opened and Closed", k.Used, k.Many)
		}
	}
}

// P4.3: where nothing can be calculated from a path, a signature does not verify, not even under a public key of zeros.
func TestVerifyUnderZeros(t *testing.T) {
	var zeros api.Digest
	for _, k := range smallKeys() {
		_, path := madeUp(k.Seed, k.Used, k.Many)
		for n := range 10 {
			s := signatureOf(k.Seed, k.Used, zeros, make([]api.Digest, n), nil)
			if signing.Verify(zeros, k.Many, nil, s) {
				t.Errorf("a signature with %d of %d verifies under zeros, with %d instead of %d digests in the path", k.Used, k.Many, n, len(path))
			}
		}
	}
}

// P4.3: every element of a signature counts, and so does its place.
func TestVerifyOfChangedSignatures(t *testing.T) {
	for n, k := range smallKeys() {
		public, s := genuine(t, k, []byte("abc"))
		refuses := func(what string, i int, change func(s *api.Signature)) {
			other := copied(s)
			change(&other)
			if signing.Verify(public, k.Many, []byte("abc"), other) {
				t.Errorf("a signature with %d of %d verifies with %s %d", k.Used, k.Many, what, i)
			}
		}
		for j := range 64 {
			refuses("another opened", j, func(s *api.Signature) { s.Opened[j] = flipped(s.Opened[j], n+5*j) })
			refuses("another closed", j, func(s *api.Signature) { s.Closed[j] = flipped(s.Closed[j], n+7*j) })
			refuses("the hash of the opened", j, func(s *api.Signature) { s.Opened[j] = openOf(s.Opened[j]) })
			refuses("the secret of the closed", j, func(s *api.Signature) {
				s.Closed[j] = secretOf(k.Seed, k.Used, j, 1-valueOf(bitsOf(public, k.Used, []byte("abc"))[j]))
			})
			refuses("the other value of", j, func(s *api.Signature) { s.Opened[j], s.Closed[j] = s.Closed[j], s.Opened[j] })
			if j > 0 {
				refuses("exchanged opened", j, func(s *api.Signature) { s.Opened[j], s.Opened[j-1] = s.Opened[j-1], s.Opened[j] })
				refuses("exchanged closed", j, func(s *api.Signature) { s.Closed[j], s.Closed[j-1] = s.Closed[j-1], s.Closed[j] })
			}
		}
		for i := range s.Path {
			refuses("another digest in the path", i, func(s *api.Signature) { s.Path[i] = flipped(s.Path[i], n+11*i) })
		}
		if len(s.Path) > 1 {
			refuses("a path the other way round", 0, func(s *api.Signature) { slices.Reverse(s.Path) })
		}
	}
}

// P4.3: other messages, other public keys and signatures by other keys do not verify.
func TestVerifyOfChangedMessages(t *testing.T) {
	msg := []byte("the table of day 40")
	for n, k := range smallKeys() {
		public, s := genuine(t, k, msg)
		for i := range msg {
			other := slices.Clone(msg)
			other[i] ^= 1 << (n % 8)
			if signing.Verify(public, k.Many, other, s) || signing.Verify(public, k.Many, msg[:i], s) || signing.Verify(public, k.Many, msg[i+1:], s) {
				t.Errorf("a signature with %d of %d verifies for another message, with a change at %d", k.Used, k.Many, i)
			}
		}
		if signing.Verify(public, k.Many, append(slices.Clone(msg), 0), s) || signing.Verify(public, k.Many, nil, s) {
			t.Errorf("a signature with %d of %d verifies for a longer message, or for none", k.Used, k.Many)
		}
		for bit := range 256 {
			if signing.Verify(flipped(public, bit), k.Many, msg, s) {
				t.Errorf("a signature with %d of %d verifies under another public key", k.Used, k.Many)
			}
		}
		other := newKey(t, []byte("others"), k.Many)
		other.Used = k.Used
		_, x, _ := signing.Sign(other, msg)
		if signing.Verify(public, k.Many, msg, x) || signing.Verify(publicKey(t, other), k.Many, msg, s) {
			t.Errorf("a signature with %d of %d verifies under the public key of another seed", k.Used, k.Many)
		}
	}
}

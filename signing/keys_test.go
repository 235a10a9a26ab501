package signing_test

import (
	"bytes"
	"encoding/hex"
	"math"
	"slices"
	"testing"

	"assize/api"
	"assize/digest"
	"assize/signing"
)

// P4.1: the key is new, for seeds and numbers of signatures at their limits.
func TestNew(t *testing.T) {
	for _, n := range []int{1, 2, 32, 63, 64} {
		for _, many := range []int{1, 2, 255, 256, 257, 4095, 4096} {
			seed := drawnBytes(n)
			if k, e := signing.New(seed, many); !sameKey(k, api.Key{Seed: seed, Many: many}) || e != api.OK {
				t.Errorf("New(%d bytes, %d) = %v, %d", n, many, k, e)
			}
		}
	}
}

// P4.1: seeds and numbers of signatures that no key has.
func TestNewOfInvalidKeys(t *testing.T) {
	for _, x := range []struct {
		seed []byte
		many int
	}{
		{nil, 1}, {[]byte{}, 1}, {nil, 0}, {nil, 4097}, {make([]byte, 65), 1}, {make([]byte, 65), 4096}, {make([]byte, 65), 0},
		{make([]byte, 1<<16), 1}, {[]byte("seed"), 0}, {[]byte("seed"), -1}, {[]byte("seed"), 4097}, {[]byte("seed"), 1 << 16},
		{[]byte("seed"), math.MinInt}, {[]byte("seed"), math.MaxInt}, {make([]byte, 64), 4097}, {make([]byte, 1), 0},
	} {
		if k, e := signing.New(x.seed, x.many); !sameKey(k, api.Key{}) || e != api.ErrKey {
			t.Errorf("New(%d bytes, %d) = %v, %d, want ErrKey", len(x.seed), x.many, k, e)
		}
	}
}

// P4.1: public keys that are known.
func TestKnownPublics(t *testing.T) {
	long := make([]byte, 64)
	for i := range long {
		long[i] = byte(i)
	}
	for _, x := range []struct {
		seed []byte
		many int
		want string
	}{
		{[]byte("a"), 1, "d275591abcc56789b286a51c980af27a4a06717a387aa93318a1c9825a4b23e3"},
		{[]byte("a"), 2, "e58be6ef8851b963f59746a0b9585a3381908ed00eba1e0f37e22e20d89f82f2"},
		{[]byte("a federation"), 3, "0436c01e6caaab64c5fad821e64082c748e1c8607034950bca83c24178d07767"},
		{long, 5, "ffa53bb1d30dda63fb7013fa8410bd68850fff3cf363e3854b6f197e09ef848d"},
		{[]byte{0}, 7, "8b6e71bf4d0a301c2ce67bc2260aa372d053e4dbe4c0aec70a4d7672edaf5c3f"},
		{[]byte("a federation"), 300, "18f839d3219625d50534df84b1ab067be3b037e0166764154048d9eadf83edf1"},
		{[]byte("a federation"), 4096, "7b92952d3976ebf3bca54662d7f5306f45a8b9755ee0976ae09ffbb9ed4a858a"},
	} {
		d := publicKey(t, newKey(t, x.seed, x.many))
		if got := hex.EncodeToString(d[:]); got != x.want {
			t.Errorf("Public of %d bytes and %d = %s, want %s", len(x.seed), x.many, got, x.want)
		}
	}
}

// P4.1: the public key is that of the definition, however many signatures have been made.
func TestPublic(t *testing.T) {
	for _, n := range []int{1, 2, 32, 63, 64} {
		ones := onesOf(drawnBytes(n), 10)
		for many := 1; many <= len(ones); many++ {
			for _, used := range []int{0, 1, many / 2, many} {
				k := api.Key{Seed: drawnBytes(n), Many: many, Used: used}
				if d, want := publicKey(t, k), digest.Tree(ones[:many]); d != want {
					t.Errorf("Public of %d bytes, %d and %d = %x, want %x", n, many, used, d, want)
				}
			}
		}
	}
}

// P4.1: one-time keys whose indices differ in either of the two bytes.
func TestPublicOfManyOneTimeKeys(t *testing.T) {
	seed := []byte("many")
	ones := onesOf(seed, 600)
	for _, many := range []int{256, 257, 600} {
		if d, want := publicKey(t, newKey(t, seed, many)), digest.Tree(ones[:many]); d != want {
			t.Errorf("Public of %d one-time keys = %x, want %x", many, d, want)
		}
	}
}

// P4.1: keys that are not valid.
func TestPublicOfInvalidKeys(t *testing.T) {
	for _, k := range invalidKeys() {
		if d, e := signing.Public(k); d != (api.Digest{}) || e != api.ErrKey {
			t.Errorf("Public(%d bytes, %d, %d) = %x, %d, want ErrKey", len(k.Seed), k.Many, k.Used, d, e)
		}
	}
}

// P4.1: other seeds have other public keys, and so have other numbers of signatures.
func TestPublicsAreApart(t *testing.T) {
	seen := map[api.Digest]bool{}
	seeds := [][]byte{{0}, {1}, {0, 0}, {0, 1}, {1, 0}, []byte("seed"), []byte("seeds"), make([]byte, 63), make([]byte, 64), drawnBytes(64)}
	for _, seed := range seeds {
		for many := 1; many <= 9; many++ {
			seen[publicKey(t, newKey(t, seed, many))] = true
		}
	}
	if len(seen) != 9*len(seeds) {
		t.Errorf("%d keys have %d public keys", 9*len(seeds), len(seen))
	}
}

// R2: bytes behind the end of the seed, in the same memory, do not count, and stay as they are.
func TestSeedIsKept(t *testing.T) {
	all := drawnBytes(200)
	before := slices.Clone(all)
	for n := 1; n <= 64; n++ {
		k, other := newKey(t, all[:n], 2), newKey(t, slices.Clone(all[:n]), 2)
		if publicKey(t, k) != publicKey(t, other) {
			t.Errorf("with more bytes behind it, a seed of %d bytes has another public key", n)
		}
		x, s, e := signing.Sign(k, all[:n])
		_, again, _ := signing.Sign(k, all[:n])
		if e != api.OK || !sameSignature(s, again) || k.Used != 0 || x.Used != 1 {
			t.Errorf("with a seed of %d bytes, Sign does not repeat what it has done", n)
		}
		signing.Verify(publicKey(t, k), 2, all[:n], s)
		if !bytes.Equal(all, before) || !sameSignature(s, again) {
			t.Fatalf("with a seed of %d bytes, something has changed", n)
		}
	}
}

// P4.1: bits that are known, the most significant one of each byte first.
func TestKnownBits(t *testing.T) {
	var zero, counting api.Digest
	for i := range counting {
		counting[i] = byte(i)
	}
	for _, x := range []struct {
		public api.Digest
		index  int
		msg    []byte
		want   uint64
	}{
		{zero, 0, nil, 0x9577fcf6b9be52b0},
		{zero, 255, []byte("abc"), 0x4b496447010f64b1},
		{zero, 256, []byte("abc"), 0x2466b325e97620ac},
		{counting, 4095, []byte("abc"), 0x02603c8cdf875880},
		{publicKey(t, newKey(t, []byte("a federation"), 3)), 1, []byte("the table of day 40"), 0xb692ca04026e055d},
		{zero, 258, bytes.Repeat([]byte("x"), 65537), 0xb070736aa0096806},
	} {
		l := signing.Bits(x.public, x.index, x.msg)
		var got uint64
		for _, bit := range l {
			got = got<<1 | uint64(valueOf(bit))
		}
		if len(l) != 64 || got != x.want {
			t.Errorf("Bits(%x, %d, %.10q) are %d bits, %016x, want %016x", x.public, x.index, x.msg, len(l), got, x.want)
		}
	}
}

// P4.1: the bits of the definition, for indices of one byte and of two, and for messages of any length.
func TestBits(t *testing.T) {
	seen := map[[64]bool]bool{}
	calls := 0
	for i, n := range []int{0, 1, 2, 69, 70, 71, 135, 136, 137, 1000, 65536, 65537, 100000} {
		public, msg := taggedOf("public", twoBytes(i)), drawnBytes(n)
		for _, index := range []int{0, 1, 2, 254, 255, 256, 257, 511, 512, 4094, 4095} {
			l := signing.Bits(public, index, msg)
			if !slices.Equal(l, bitsOf(public, index, msg)) {
				t.Errorf("Bits of %d bytes with the index %d are %v", n, index, l)
				continue
			}
			seen[[64]bool(l)] = true
			calls++
		}
	}
	if len(seen) != calls {
		t.Errorf("%d calls have returned %d lists of bits", calls, len(seen))
	}
	if !slices.Equal(signing.Bits(api.Digest{1}, 7, nil), signing.Bits(api.Digest{1}, 7, []byte{})) {
		t.Error("nil and no bytes have different bits")
	}
}

// P4.1: indices that no one-time key has.
func TestBitsOfNoIndex(t *testing.T) {
	for _, index := range []int{-1, -2, -256, -4096, 4096, 4097, 65535, 65536, 1 << 40, math.MinInt, math.MaxInt} {
		for _, msg := range [][]byte{nil, []byte("abc"), make([]byte, 65537)} {
			if l := signing.Bits(api.Digest{1}, index, msg); len(l) != 0 {
				t.Errorf("Bits of %d bytes with the index %d are %v", len(msg), index, l)
			}
		}
	}
}

package signing_test

import (
	"crypto/sha3"
	"encoding/hex"
	"slices"
	"testing"

	"assize/api"
	"assize/digest"
	"assize/signing"
)

// P4.2: signatures whose hash, of all that they show, is known.
func TestKnownSignatures(t *testing.T) {
	long := make([]byte, 64)
	for i := range long {
		long[i] = byte(i)
	}
	for _, x := range []struct {
		k    api.Key
		msg  []byte
		want string
	}{
		{api.Key{Seed: []byte("a"), Many: 1}, nil, "40ecc3777966d92fd741c401240faa29bcc2735626daf5faf61faae27caf5882"},
		{api.Key{Seed: []byte("a federation"), Many: 3, Used: 1}, []byte("abc"), "b1517f0cfc38db7ed0a7cf8bba6956fae75a2f7e0e0c9bd72a303c228e46f522"},
		{api.Key{Seed: long, Many: 5, Used: 4}, make([]byte, 65536), "16bd8f88abcc606ae4ee46a0442cd5cdd74d6a0f1764ec6ea57fc8b8cd488da3"},
		{api.Key{Seed: []byte("a federation"), Many: 300, Used: 299}, []byte("abc"), "171d33b9fda82e55f2f5d5ef960dcfd1c57efc9b0c2da428c9ae476da0b9bf7a"},
		{api.Key{Seed: []byte("a federation"), Many: 300}, []byte("abc"), "33d6e2ae6c539326f6eb0e911c02eda3bef17df682192310c5794506b8fb5090"},
	} {
		_, s, e := signing.Sign(x.k, x.msg)
		var all []byte
		for _, d := range slices.Concat(s.Opened, s.Closed, s.Path) {
			all = append(all, d[:]...)
		}
		h := sha3.Sum256(all)
		if got := hex.EncodeToString(h[:]); got != x.want || s.Index != x.k.Used || e != api.OK {
			t.Errorf("Sign of %d bytes with %d of %d shows %s, %d, want %s", len(x.msg), s.Index, x.k.Many, got, e, x.want)
		}
	}
}

// checkSign signs a message and compares what is returned with the definition.
func checkSign(t *testing.T, k api.Key, ones []api.Digest, msg []byte) {
	t.Helper()
	public := digest.Tree(ones)
	path, _ := digest.Path(ones, k.Used)
	x, s, e := signing.Sign(k, msg)
	if e != api.OK || !sameKey(x, api.Key{Seed: k.Seed, Many: k.Many, Used: k.Used + 1}) {
		t.Errorf("Sign of %d bytes with %d of %d returns the key %d of %d, %d", len(msg), k.Used, k.Many, x.Used, x.Many, e)
	}
	if !sameSignature(s, signatureOf(k.Seed, k.Used, public, path, msg)) {
		t.Errorf("Sign of %d bytes with %d of %d returns another signature", len(msg), k.Used, k.Many)
	}
	if !signing.Verify(public, k.Many, msg, s) {
		t.Errorf("the signature of %d bytes with %d of %d does not verify", len(msg), k.Used, k.Many)
	}
}

// P4.2, P4.4: each one-time key of each small key signs as defined, and its signature verifies.
func TestSign(t *testing.T) {
	messages := [][]byte{nil, []byte("abc"), {0}, {255, 0}, drawnBytes(70), drawnBytes(136)}
	for _, n := range []int{1, 64} {
		seed := drawnBytes(n)
		ones := onesOf(seed, 17)
		for many := 1; many <= len(ones); many++ {
			for used := range many {
				checkSign(t, api.Key{Seed: seed, Many: many, Used: used}, ones[:many], messages[(many+used)%len(messages)])
			}
		}
	}
}

// P4.2, P4.4: messages at the limit, and indices that take both bytes, up to the last one of the greatest key.
func TestSignAtTheLimits(t *testing.T) {
	seed := drawnBytes(64)
	ones := onesOf(seed, 4096)
	for _, msg := range [][]byte{nil, {}, drawnBytes(1), drawnBytes(65535), drawnBytes(65536)} {
		checkSign(t, api.Key{Seed: seed, Many: 1}, ones[:1], msg)
		checkSign(t, api.Key{Seed: seed, Many: 3, Used: 2}, ones[:3], msg)
	}
	for _, used := range []int{255, 256, 258} {
		checkSign(t, api.Key{Seed: seed, Many: 259, Used: used}, ones[:259], []byte("abc"))
	}
	for _, used := range []int{0, 4095} {
		checkSign(t, api.Key{Seed: seed, Many: 4096, Used: used}, ones, drawnBytes(used))
	}
}

func refusesSign(t *testing.T, k api.Key, msg []byte, want api.Errno) {
	t.Helper()
	x, s, e := signing.Sign(k, msg)
	if !sameKey(x, api.Key{}) || !sameSignature(s, api.Signature{}) || e != want {
		t.Errorf("Sign of %d bytes with %d of %d, %d bytes: %d, want %d", len(msg), k.Used, k.Many, len(k.Seed), e, want)
	}
}

// P4.2, R1: an invalid key is reported before a long message, and that before a key that is used up.
func TestSignErrors(t *testing.T) {
	short, longest, long := []byte("abc"), make([]byte, 65536), make([]byte, 65537)
	for _, k := range invalidKeys() {
		for _, msg := range [][]byte{nil, short, longest, long} {
			refusesSign(t, k, msg, api.ErrKey)
		}
	}
	for _, many := range []int{1, 2, 3, 4096} {
		for _, used := range []int{0, many / 2, many - 1, many} {
			k := api.Key{Seed: []byte("seed"), Many: many, Used: used}
			refusesSign(t, k, long, api.ErrLimit)
			refusesSign(t, k, make([]byte, 1<<20), api.ErrLimit)
		}
		for _, msg := range [][]byte{nil, short, longest} {
			refusesSign(t, api.Key{Seed: []byte("seed"), Many: many, Used: many}, msg, api.ErrKey)
		}
	}
}

// P4.4: a key signs as often as it says, with each index once; neither Many nor the public key changes.
func TestKeyIsUsedUp(t *testing.T) {
	for many := 1; many <= 10; many++ {
		k := newKey(t, []byte("used up"), many)
		public := publicKey(t, k)
		var old []api.Signature
		for i := range many {
			x, s, e := signing.Sign(k, []byte{byte(i)})
			if e != api.OK || s.Index != i || x.Used != i+1 || x.Many != many || publicKey(t, x) != public {
				t.Errorf("signature %d of %d has the index %d, %d", i, many, s.Index, e)
			}
			k, old = x, append(old, s)
		}
		refusesSign(t, k, nil, api.ErrKey)
		for i, s := range old {
			for j := range old {
				if ok := signing.Verify(public, many, []byte{byte(j)}, s); ok != (i == j) {
					t.Errorf("signature %d of %d verifies for message %d: %t", i, many, j, ok)
				}
			}
		}
	}
}

// P4.4: two messages that have the same bits under this key and with the index 1, and with no other one, have been
// searched for. They have the same signature, and it verifies for both.
func TestMessagesWithTheSameBits(t *testing.T) {
	k := newKey(t, []byte("a federation"), 3)
	public := publicKey(t, k)
	first := []byte{0x43, 0xd2, 0x70, 0x79, 0x68, 0x69, 0x50, 0x68}
	second := []byte{0x6f, 0x36, 0xf4, 0xa2, 0x0a, 0x6b, 0x51, 0x0e}
	for used := range k.Many {
		k.Used = used
		same := used == 1
		if slices.Equal(signing.Bits(public, used, first), signing.Bits(public, used, second)) != same {
			t.Errorf("with the index %d, the bits are not as they were found", used)
		}
		_, a, _ := signing.Sign(k, first)
		_, b, _ := signing.Sign(k, second)
		if sameSignature(a, b) != same {
			t.Errorf("with the index %d, the signatures are the same: %t", used, !same)
		}
		if !signing.Verify(public, k.Many, first, a) || !signing.Verify(public, k.Many, second, b) {
			t.Errorf("with the index %d, a signature does not verify", used)
		}
		if signing.Verify(public, k.Many, second, a) != same || signing.Verify(public, k.Many, first, b) != same {
			t.Errorf("with the index %d, a signature verifies for the other message: %t", used, !same)
		}
	}
}

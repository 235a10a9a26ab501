package digest_test

import (
	"bytes"
	"crypto/sha3"
	"encoding/hex"
	"math/rand/v2"
	"slices"
	"strings"
	"testing"

	"assize/api"
	"assize/digest"
)

// drawnBytes has bytes that are the same in every run.
func drawnBytes(n int) []byte {
	r := rand.New(rand.NewPCG(3, uint64(n)))
	b := make([]byte, n)
	for i := range b {
		b[i] = byte(r.Uint32())
	}
	return b
}

// P3.1: hashes that are known, around the ends of blocks of 136 bytes.
func TestKnownSums(t *testing.T) {
	for _, x := range []struct{ message, want string }{
		{"", "a7ffc6f8bf1ed76651c14756a061d662f580ff4de43b49fa82d80a4b80f8434a"},
		{"abc", "3a985da74fe225b2045c172d6bd390bd855f086e3e9d525b46bfe24511431532"},
		{"abcdbcdecdefdefgefghfghighijhijkijkljklmklmnlmnomnopnopq", "41c0dba2a9d6240849100376a8235e2c82e1b9998a999e21db32dd97496d3376"},
		{strings.Repeat("\xa3", 200), "79f38adec5c20307a98ef76e8324afbfd46cfd81b22e3973c65fa1bd9de31787"},
		{strings.Repeat("a", 134), "58b970c37ac2d65b599b691868a61401a501c40f235d55f059d39a942f41dcee"},
		{strings.Repeat("a", 135), "8094bb53c44cfb1e67b7c30447f9a1c33696d2463ecc1d9c92538913392843c9"},
		{strings.Repeat("a", 136), "3fc5559f14db8e453a0a3091edbd2bc25e11528d81c66fa570a4efdcc2695ee1"},
		{strings.Repeat("a", 137), "f8d6846cedd2ccfadf15c5879ef95af724d799eed7391fb1c91f95344e738614"},
		{strings.Repeat("a", 271), "e79e5c6fef1bb5fdea2717ca27e88399e9b64699d1b3eb8e30f314fa055214e8"},
		{strings.Repeat("a", 272), "a490357b9b3fb39d0a89a117734e5b020b1f33c7bf3fa3575c396425432003d3"},
		{strings.Repeat("a", 273), "7930a0e2cde6f949ea52204a2fde51856de566d96d2ebe896656450a2b10b445"},
		{strings.Repeat("a", 1000000), "5c8875ae474a3634ba4fd55ec85bffd661f32aca75c6d699d0cdcb6c115891c1"},
	} {
		d := digest.Sum([]byte(x.message))
		if got := hex.EncodeToString(d[:]); got != x.want {
			t.Errorf("Sum of %d bytes %.10q = %s, want %s", len(x.message), x.message, got, x.want)
		}
	}
}

// P3.1: messages of every length up to some blocks have the hashes that the standard library calculates.
func TestSumOfEveryLength(t *testing.T) {
	most := 5*136 + 2
	for _, all := range [][]byte{drawnBytes(most), make([]byte, most), bytes.Repeat([]byte{0xff}, most)} {
		for n := range most + 1 {
			if d, want := digest.Sum(all[:n]), sha3.Sum256(all[:n]); d != want {
				t.Errorf("Sum of %d bytes from %x = %x, want %x", n, all[0], d, want)
			}
		}
	}
}

// P3.1: long messages, and many drawn ones.
func TestSumOfDrawnMessages(t *testing.T) {
	r := rand.New(rand.NewPCG(1, 2))
	for i := range 5000 {
		b := drawnBytes(r.IntN(1000))
		if d, want := digest.Sum(b), sha3.Sum256(b); d != want {
			t.Fatalf("Sum of message %d = %x, want %x", i, d, want)
		}
	}
	for _, n := range []int{1 << 16, 136 * 1000, 1<<20 + 1} {
		b := drawnBytes(n)
		if d, want := digest.Sum(b), sha3.Sum256(b); d != want {
			t.Errorf("Sum of %d bytes = %x, want %x", n, d, want)
		}
	}
}

// P3.1, R2, R3: no bytes are no bytes, and bytes behind the end of the slice, in the same memory, do not count and stay.
func TestSumKeepsToItsArgument(t *testing.T) {
	if digest.Sum(nil) != digest.Sum([]byte{}) || digest.Tagged("x", nil) != digest.Tagged("x", []byte{}) {
		t.Error("nil and no bytes have different hashes")
	}
	all := drawnBytes(300)
	before := slices.Clone(all)
	for n := range len(all) {
		d, x := digest.Sum(all[:n]), digest.Tagged("tag", all[:n])
		if d != digest.Sum(slices.Clone(all[:n])) || x != digest.Tagged("tag", slices.Clone(all[:n])) {
			t.Errorf("with more bytes behind them, %d bytes have another hash", n)
		}
	}
	if !bytes.Equal(all, before) {
		t.Error("the bytes have changed")
	}
}

// P3.1: tagged hashes that are known.
func TestKnownTagged(t *testing.T) {
	for _, x := range []struct{ tag, message, want string }{
		{"", "", "a1292c11ccdb876535c6699e8217e1a1294190d83e4233ecc490d32df17a4116"},
		{"", "abc", "dde4e16ed884227eab311a7e35dee508b7ca1d4c6a4dee04ea2a84cbdb5286e0"},
		{"leaf", "", "534e582a7f6fad1c98510b49bb2240ac096aa091cda70da73f3734b6d12209ac"},
		{"fact", "abc", "f458e8c878e843f5602657d6a1a80766444166e86d77f260332f878685c77ca0"},
		{"node", strings.Repeat("c", 103), "51af440bf43b2c134962d39399557e032b29a6fd4f03d4b5633735521a6adb45"},
		{strings.Repeat("a", 136), strings.Repeat("b", 104), "6ee1261e82fb630d6dab7f18944540628f08df62354e2b64ddd6855029ddf780"},
		{"ä", "\xff\x00", "6d3c6dc37e3b62b167ff52b76ed5ec4c2cf5e30b6350940eba63e4c210f50550"},
	} {
		d := digest.Tagged(x.tag, []byte(x.message))
		if got := hex.EncodeToString(d[:]); got != x.want {
			t.Errorf("Tagged(%.10q, %.10q) = %s, want %s", x.tag, x.message, got, x.want)
		}
	}
}

// tagged is Tagged by its definition, with the hash function of the standard library.
func tagged(tag string, parts ...api.Digest) api.Digest {
	domain := sha3.Sum256([]byte(tag))
	b := domain[:]
	for _, p := range parts {
		b = append(b, p[:]...)
	}
	return sha3.Sum256(b)
}

// P3.1: Tagged is the hash of the tag's hash and the bytes, for messages of every length around the end of a block.
func TestTaggedIsSum(t *testing.T) {
	if none := digest.Sum(nil); digest.Tagged("", nil) != digest.Sum(none[:]) {
		t.Error("Tagged of nothing is not the hash of the hash of nothing")
	}
	all := drawnBytes(300)
	for _, tag := range []string{"", "a", "leaf", "\x00", "\xff\xfe", strings.Repeat("long", 100), strings.Repeat("x", 135), string(all)} {
		domain := sha3.Sum256([]byte(tag))
		for n := range len(all) {
			want := sha3.Sum256(slices.Concat(domain[:], all[:n]))
			if d := digest.Tagged(tag, all[:n]); d != want {
				t.Errorf("Tagged(%.10q) of %d bytes = %x, want %x", tag, n, d, want)
			}
		}
	}
}

// P3.1: another tag, another message or another border between them leads to another hash.
func TestTaggedIsApart(t *testing.T) {
	seen := map[api.Digest]string{}
	for _, x := range [][2]string{
		{"", ""}, {"a", ""}, {"", "a"}, {"a", "b"}, {"ab", ""}, {"", "ab"}, {"b", "a"}, {"A", "b"},
		{"leaf", "x"}, {"node", "x"}, {"empty", "x"}, {"leaf", "x\x00"}, {"leaf\x00", "x"}, {"leaf", "\x00x"},
	} {
		d := digest.Tagged(x[0], []byte(x[1]))
		if other, is := seen[d]; is {
			t.Errorf("%q has the hash of %s", x, other)
		}
		seen[d] = x[0] + "," + x[1]
	}
}

package signing

import (
	"slices"

	"assize/api"
	"assize/digest"
)

// signedBits is how many bits of the hash of a message are signed.
const signedBits = 64

// place says where a secret belongs: to which bit, and to which value of it, 0 or 1. These two bytes are also what
// makes the secrets of a one-time key different.
type place [2]byte

// other returns the place of the same bit with its other value.
func (p place) other() place { return place{p[0], 1 - p[1]} }

// placesOf returns the places of all bits with the values that they have.
func placesOf(bits []bool) (l [signedBits]place) {
	for j, bit := range bits {
		l[j] = place{byte(j), 0}
		if bit {
			l[j] = l[j].other()
		}
	}
	return l
}

// publicKey returns the one-time public key with the hashes that a function has for all places.
func publicKey(hash func(p place) api.Digest) api.Digest {
	hashes := make([]byte, 0, 2*signedBits*len(api.Digest{}))
	for j := range signedBits {
		for b := range 2 {
			d := hash(place{byte(j), byte(b)})
			hashes = append(hashes, d[:]...)
		}
	}
	return digest.Tagged("one", hashes)
}

// oneTimeKey makes the secrets of a one-time key and their hashes. It keeps the hashes of the tags, because
// digest.Tagged would calculate them for each secret, which would take twice the time.
type oneTimeKey struct {
	beginning []byte     // what a secret is the hash of, up to its place
	openTag   api.Digest // what its hash is the hash of, up to the secret
}

func newOneTimeKey(seed []byte, i int) oneTimeKey {
	tag := digest.Sum([]byte("secret"))
	beginning := slices.Concat(tag[:], seed, twoBytes(i))
	// Without room behind it, each place is appended to a copy.
	return oneTimeKey{beginning: slices.Clip(beginning), openTag: digest.Sum([]byte("open"))}
}

func (k oneTimeKey) secret(p place) api.Digest { return digest.Sum(append(k.beginning, p[:]...)) }

func (k oneTimeKey) hash(p place) api.Digest {
	secret := k.secret(p)
	return digest.Sum(slices.Concat(k.openTag[:], secret[:]))
}

// shownKey is what a signature shows of a one-time key: the secrets of the places that are signed, and the hashes of
// the other ones.
type shownKey struct {
	signed         [signedBits]place
	opened, closed []api.Digest
}

func (k shownKey) hash(p place) api.Digest {
	j := p[0]
	if p == k.signed[j] {
		return digest.Tagged("open", k.opened[j][:])
	}
	return k.closed[j]
}

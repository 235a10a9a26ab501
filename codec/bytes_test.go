package codec_test

import (
	"bytes"
	"math"
	"math/rand/v2"
	"slices"
	"strconv"
	"strings"
	"testing"

	"assize/api"
	"assize/codec"
)

// known has values with their encodings, written out by hand.
func known() []struct {
	v    api.Value
	want string
} {
	return []struct {
		v    api.Value
		want string
	}{
		{number(0), "i0e"}, {number(7), "i7e"}, {number(-1), "i-1e"}, {number(10), "i10e"}, {number(-100), "i-100e"},
		{number(math.MaxInt), "i9223372036854775807e"}, {number(math.MinInt), "i-9223372036854775808e"},
		{text(""), "0:"}, {text("a"), "1:a"}, {text("i1e"), "3:i1e"}, {text(":"), "1::"}, {text("1:a"), "3:1:a"},
		{text("ä"), "2:\xc3\xa4"}, {text("\x00\xff"), "2:\x00\xff"}, {text("ten bytes."), "10:ten bytes."},
		{list(), "le"}, {list(number(-3), text("ab")), "li-3e2:abe"}, {list(list(), dict(nil), text("")), "llede0:e"},
		{list(number(2), number(1), number(2)), "li2ei1ei2ee"},
		{dict(nil), "de"}, {dict(keys("a", "b"), number(2), number(1)), "d1:ai2e1:bi1ee"},
		{dict(keys("", "a", "aa", "b"), list(), dict(nil), text(""), number(0)), "d0:le1:ade2:aa0:1:bi0ee"},
		{dict(keys("10", "9"), number(1), number(2)), "d2:10i1e1:9i2ee"},
		{dict(keys("Z", "a", "\xff"), number(1), number(2), number(3)), "d1:Zi1e1:ai2e1:\xffi3ee"},
		{list(dict(keys("k"), list(dict(keys("k"), text("v"))))), "ld1:kld1:k1:veeee"},
		{lists(16), strings.Repeat("l", 16) + strings.Repeat("e", 16)},
		{dicts(16), strings.Repeat("d0:", 15) + "de" + strings.Repeat("e", 15)},
		{wrap(number(1), 16), strings.Repeat("ld1:k", 8) + "i1e" + strings.Repeat("e", 16)},
	}
}

// noEncodings has bytes that are no encoding, each for one reason.
func noEncodings() []string {
	return []string{
		// nothing, nothing that begins a value, and the end of none
		"", " ", "e", "x", ":", "-", "a1:a", "I1e", "L", "\x00", "\xff",
		// integers
		"i", "ie", "i-e", "i1", "i-1", "i--1e", "i+1e", "i 1e", "i1 e", "i3e ", " i3e", "i1x", "i1.0e", "i1_0e", "i0x1e",
		"i1:", "i٣e", "i-0e", "i00e", "i03e", "i-03e", "i-00e", "i+0e", "i0", "i1-e", "i1e2e", "ii1ee", "i1\x00e",
		"i9223372036854775808e", "i-9223372036854775809e", "i18446744073709551616e", "i99999999999999999999999e",
		"i" + strings.Repeat("9", 1000) + "e", "i" + strings.Repeat("0", 1000) + "e",
		// texts
		"0", "1", "1:", "2:a", "0:a", "1:ab", "01:a", "00:", "-1:a", "-0:", "+1:a", "1 :a", "1;a", "1e", "a:a", "1_0:0123456789",
		"0x1:a", "9223372036854775807:a", "9223372036854775808:a", "18446744073709551617:a", "-9223372036854775808:a",
		strings.Repeat("9", 1000) + ":a", "12", "12a:", "10:123456789", "2:ä!", "1:ä",
		// lists
		"l", "ll", "lle", "li1e", "li1", "lx", "lee", "le ", "lele", "l1:ae1", "l01:ae", "li-0ee", "li1e e", "l:e", "l-e",
		// dictionaries
		"d", "d1:a", "d1:ai1e", "d1:ae", "dee", "de1", "di1ei1ee", "dlei1ee", "ddei1ee", "d1:ai1e1:be", "d1:ai1e1:b",
		"d1:bi1e1:ai2ee", "d1:ai1e1:ai2ee", "d1:ai1e0:i2ee", "d0:i1e0:i2ee", "d2:aai1e1:ai2ee", "d1:ai1e1:Bi2ee",
		"d1:9i1e2:10i2ee", "d1:ai1e1:ci2e1:bi3ee", "d01:ai1ee", "d-1:ai1ee", "d1:ai01ee", "d1:a1:be1:c", "d:i1ee",
		"d1:ad1:bi1e1:ai2eee", "ld1:bi1e1:ai2eee",
		// one level more than there may be
		strings.Repeat("l", 17) + strings.Repeat("e", 17), strings.Repeat("d0:", 16) + "de" + strings.Repeat("e", 16),
		strings.Repeat("ld1:k", 8) + "le" + strings.Repeat("e", 16), strings.Repeat("ld1:k", 8) + "de" + strings.Repeat("e", 16),
		strings.Repeat("ld1:k", 8) + "li1ee" + strings.Repeat("e", 16), "le" + strings.Repeat("l", 17) + strings.Repeat("e", 17),
		strings.Repeat("l", 1<<16) + strings.Repeat("e", 1<<16), strings.Repeat("l", 1<<16), strings.Repeat("d0:", 1<<16),
	}
}

func refuses(t *testing.T, b []byte) {
	t.Helper()
	if v, e := codec.Decode(b); e != api.ErrCode || !codec.Same(v, api.Value{}) {
		t.Errorf("Decode(%.80q) = %v, %d, want ErrCode", b, v, e)
	}
}

// P2.1, P2.2: encodings that are known, in both directions.
func TestKnownEncodings(t *testing.T) {
	for _, x := range known() {
		if b, e := codec.Encode(x.v); string(b) != x.want || e != api.OK {
			t.Errorf("Encode(%v) = %q, %d, want %q", x.v, b, e, x.want)
		}
		if v, e := codec.Decode([]byte(x.want)); !codec.Same(v, x.v) || e != api.OK {
			t.Errorf("Decode(%q) = %v, %d, want %v", x.want, v, e, x.v)
		}
	}
}

// P2.1: what Check refuses has no encoding.
func TestEncodeOfWrongValues(t *testing.T) {
	for _, v := range malformed() {
		for _, x := range []api.Value{v, list(number(1), v), wrap(v, 40)} {
			if b, e := codec.Encode(x); len(b) != 0 || e != api.ErrArg {
				t.Errorf("Encode(%v) = %q, %d, want ErrArg", x, b, e)
			}
		}
	}
	for _, v := range []api.Value{lists(17), dicts(17), wrap(text(""), 17), list(number(1), lists(16)), lists(1 << 16)} {
		if b, e := codec.Encode(v); len(b) != 0 || e != api.ErrLimit {
			t.Errorf("Encode = %q, %d, want ErrLimit", b, e)
		}
	}
}

// P2.2: what is no encoding.
func TestDecodeOfNoEncoding(t *testing.T) {
	refuses(t, nil)
	for _, s := range noEncodings() {
		refuses(t, []byte(s))
	}
}

// P2.2, P2.4: an encoding that is cut short, or that has bytes behind it, is none.
func TestDecodeOfPartsAndMore(t *testing.T) {
	for _, x := range known() {
		for n := range len(x.want) {
			refuses(t, []byte(x.want[:n]))
		}
		for _, more := range []string{"e", "i1e", "0:", "le", "de", " ", "\n", "\x00", "0", ":", x.want} {
			refuses(t, []byte(x.want+more))
		}
	}
}

// P2.2: bytes behind the end of the slice, in the same memory, do not belong to it, and the argument stays as it is.
func TestDecodeKeepsToItsArgument(t *testing.T) {
	b := []byte("li-3e2:abe")
	for n := range len(b) {
		refuses(t, b[:n])
	}
	if string(b) != "li-3e2:abe" {
		t.Errorf("Decode has changed its argument to %q", b)
	}
	v, _ := codec.Decode(b)
	clear(b)
	if !codec.Same(v, list(number(-3), text("ab"))) {
		t.Errorf("the value has changed with the bytes, to %v", v)
	}
}

// letters has the bytes that the exhaustive test writes: those that mean something, and some that mean nothing.
const letters = "ilde:-012ax"

// enumerate has the encodings up to a length that consist of letters, by the definition of an encoding, with their values.
func enumerate(most int) map[string]api.Value {
	found := map[string]api.Value{}
	for n := -9999; n <= 99999; n++ {
		if s := strconv.Itoa(n); len(s)+2 <= most && strings.Trim(s, letters) == "" {
			found["i"+s+"e"] = number(n)
		}
	}
	// The letters have no digits for longer texts.
	for n := range 3 {
		for _, s := range words(n) {
			found[strconv.Itoa(n)+":"+s] = text(s)
		}
	}
	// What a list contains is shorter than the list, so that it is found before.
	for length := 2; length <= most; length++ {
		for s, l := range sequences(found, length-2) {
			found["l"+s+"e"] = list(l...)
			if d, ok := pairs(l); ok {
				found["d"+s+"e"] = d
			}
		}
	}
	return found
}

// words has all strings of letters of a length.
func words(length int) []string {
	if length == 0 {
		return []string{""}
	}
	var l []string
	for _, w := range words(length - 1) {
		for _, c := range letters {
			l = append(l, w+string(c))
		}
	}
	return l
}

// sequences has the lists of values whose encodings have a length together, by their encodings.
func sequences(found map[string]api.Value, length int) map[string][]api.Value {
	all := map[string][]api.Value{}
	if length == 0 {
		all[""] = nil
		return all
	}
	for s, v := range found {
		if len(s) > length {
			continue
		}
		for tail, l := range sequences(found, length-len(s)) {
			all[s+tail] = append([]api.Value{v}, l...)
		}
	}
	return all
}

// pairs has the dictionary whose keys and values are listed by turns, if there is one.
func pairs(l []api.Value) (d api.Value, ok bool) {
	d = dict(nil)
	for p := range slices.Chunk(l, 2) {
		if len(p) < 2 || p[0].Kind != api.TextV {
			return api.Value{}, false
		}
		d.Keys = append(d.Keys, p[0].S)
		d.L = append(d.L, p[1])
	}
	// slices.Compact finds equal neighbours, which a dictionary does not have.
	return d, slices.IsSorted(d.Keys) && len(slices.Compact(slices.Clone(d.Keys))) == len(d.Keys)
}

// P2.2, P2.4: among all short strings of letters, the encodings are exactly those of the definition.
func TestEveryShortString(t *testing.T) {
	const most = 6
	found := enumerate(most)
	seen := 0
	for length := range most + 1 {
		for _, s := range words(length) {
			want, is := found[s]
			v, e := codec.Decode([]byte(s))
			if (e == api.OK) != is || !is && e != api.ErrCode || !codec.Same(v, want) {
				t.Fatalf("Decode(%q) = %v, %d, want %v, %t", s, v, e, want, is)
			}
			if is {
				seen++
			}
		}
	}
	if seen != len(found) || seen < 100 {
		t.Errorf("%d of %d encodings are strings of the test", seen, len(found))
	}
}

// P2.4: different values have different encodings, of which none is the beginning of another one.
func TestEncodingsAreApart(t *testing.T) {
	var all []string
	for _, v := range enumerate(7) {
		b, e := codec.Encode(v)
		if e != api.OK {
			t.Fatalf("Encode(%v): %d", v, e)
		}
		all = append(all, string(b))
	}
	for _, v := range wellFormed() {
		b, _ := codec.Encode(v)
		if !slices.Contains(all, string(b)) {
			all = append(all, string(b))
		}
	}
	slices.Sort(all)
	for i := 1; i < len(all); i++ {
		if strings.HasPrefix(all[i], all[i-1]) {
			t.Errorf("%q is the beginning of %q", all[i-1], all[i])
		}
	}
}

// P2.4: the encoding of a list consists of those of its elements.
func TestEncodingOfLists(t *testing.T) {
	all := slices.DeleteFunc(wellFormed(), func(v api.Value) bool { return codec.Check(list(v)) != api.OK })
	for i := range all {
		for k := i; k <= len(all); k++ {
			var parts [][]byte
			for _, v := range all[i:k] {
				b, _ := codec.Encode(v)
				parts = append(parts, b)
			}
			want := "l" + string(bytes.Join(parts, nil)) + "e"
			if b, e := codec.Encode(list(all[i:k]...)); string(b) != want || e != api.OK {
				t.Fatalf("Encode of a list of %d elements = %.80q, %d, want %.80q", k-i, b, e, want)
			}
		}
	}
}

// drawn has a value of at most the given depth.
func drawn(r *rand.Rand, depth int) api.Value {
	kind := api.IntV + r.IntN(4)
	if depth == 0 {
		kind = api.IntV + r.IntN(2)
	}
	switch kind {
	case api.IntV:
		// Shifts make numbers of every length.
		return number(int(r.Uint64()) >> r.IntN(64))
	case api.TextV:
		return text(drawnText(r))
	}
	v := api.Value{Kind: kind}
	for range r.IntN(4) {
		v.L = append(v.L, drawn(r, depth-1))
	}
	if kind == api.DictV {
		for range v.L {
			v.Keys = append(v.Keys, drawnText(r))
		}
		slices.Sort(v.Keys)
		v.Keys = slices.Compact(v.Keys)
		v.L = v.L[:len(v.Keys)]
	}
	return v
}

func drawnText(r *rand.Rand) string {
	b := make([]byte, r.IntN(14))
	for i := range b {
		b[i] = byte(r.Uint32())
	}
	return string(b)
}

// damaged has the bytes with one of them changed, left out or added.
func damaged(r *rand.Rand, b []byte) []byte {
	i := r.IntN(len(b))
	c := byte(r.Uint32())
	if r.IntN(2) == 0 {
		c = "ilde:-0123456789"[r.IntN(16)]
	}
	switch r.IntN(3) {
	case 0:
		return slices.Concat(b[:i], []byte{c}, b[i+1:])
	case 1:
		return slices.Concat(b[:i], b[i+1:])
	}
	return slices.Concat(b[:i], []byte{c}, b[i:])
}

// P2.4: Decode of Encode is the value, and Encode of Decode are the bytes, also of bytes that are nearly an encoding.
func TestThereAndBack(t *testing.T) {
	r := rand.New(rand.NewPCG(2, 4))
	again := 0
	for range 20000 {
		v := drawn(r, 6)
		b, e := codec.Encode(v)
		w, f := codec.Decode(b)
		if e != api.OK || f != api.OK || !codec.Same(v, w) {
			t.Fatalf("%v, %d becomes %v, %d", v, e, w, f)
		}
		near := damaged(r, b)
		if w, f = codec.Decode(near); f != api.OK {
			refuses(t, near)
			continue
		}
		again++
		if c, e := codec.Encode(w); e != api.OK || !bytes.Equal(c, near) {
			t.Fatalf("%q is decoded, but its value is encoded as %q, %d", near, c, e)
		}
	}
	if again == 0 {
		t.Error("no damaged bytes were an encoding")
	}
}

// R2: an encoding stays as it was when another one is made.
func TestEncodingsAreKept(t *testing.T) {
	v := list(number(1), text("a"))
	first, _ := codec.Encode(v)
	second, _ := codec.Encode(list(number(2), text("b")))
	_ = append(first, 'x')
	if string(first) != "li1e1:ae" || string(second) != "li2e1:be" {
		t.Errorf("the encodings have become %q and %q", first, second)
	}
}

// P2.2: long texts and long lists are read in the time of their length.
func TestLongValues(t *testing.T) {
	v := list()
	for n := range 200000 {
		v.L = append(v.L, number(n))
	}
	for _, x := range []api.Value{v, text(strings.Repeat("e", 1<<24)), list(text(strings.Repeat("l", 1<<24)), v)} {
		b, e := codec.Encode(x)
		w, f := codec.Decode(b)
		if e != api.OK || f != api.OK || !codec.Same(x, w) {
			t.Errorf("a value with an encoding of %d bytes is lost: %d, %d", len(b), e, f)
		}
	}
}

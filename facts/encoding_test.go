package facts_test

import (
	"bytes"
	"encoding/hex"
	"fmt"
	"math/rand/v2"
	"slices"
	"strings"
	"testing"

	"assize/api"
	"assize/codec"
	"assize/facts"
)

// known has facts with their encodings, written out by hand.
func known() []struct {
	f    api.Fact
	want string
} {
	const head = "d3:dayi9e4:kindi"
	what := func(kind, what string) string { return head + kind + "e5:knowni10e4:whatl" + what + "ee" }
	return []struct {
		f    api.Fact
		want string
	}{
		{move(api.Move{Player: 5, To: 2}), "d3:dayi9e4:kindi6e5:knowni10e4:whatli5ei2eee"},
		{move(api.Move{Player: 8191, To: -1}), what("6", "i8191ei-1e")},
		{entrants(api.Entrants{Season: 4, Comp: 2, Clubs: []int{1, 5, 7}, Rules: "first_2"}), what("1", "i4ei2eli1ei5ei7ee7:first_2")},
		{entrants(api.Entrants{Comp: 9, Clubs: []int{0, 191}}), what("1", "i0ei9eli0ei191ee0:")},
		{fixture(api.Fixture{Game: in, Venue: 12}), what("2", "li4ei2ei5ei7eei12e")},
		{sheet(api.Sheet{Game: in}), what("3", "li4ei2ei5ei7eei0ei0ei0ei0ei0elelelele")},
		{sheet(leagueSheet()), what("3", "li4ei2ei5ei7eei1ei2ei1ei0ei0eli10ei11ei15eeli3ei12ei200ee"+
			"lli15ei0eeli10ei1eeli15ei0eeelli3ei1eee")},
		{sheet(cupSheet()), what("3", "li4ei9ei5ei7eei1ei1ei1ei4ei5eli10ei11ei15eeli3ei12ei200ee"+
			"lli15ei0eeli10ei1eeli15ei0eeelli3ei1eee")},
		{ruling(api.Ruling{Case: 7, Instance: 1, Kind: 1, Game: in, Club: 5}), what("4", "i7ei1ei1eli4ei2ei5ei7eei5ei0ei0ei0ei0ei0ei0ei0ei0ei0e")},
		{ruling(api.Ruling{Case: 8, Instance: 3, Kind: 2, Game: in}), what("4", "i8ei3ei2eli4ei2ei5ei7eei0ei0ei0ei0ei0ei0ei0ei0ei0ei0e")},
		{ruling(api.Ruling{Case: 9, Instance: 1, Kind: 3, Game: cup, HomeGoals: 3, AwayGoals: 2}),
			what("4", "i9ei1ei3eli4ei9ei5ei7eei0ei0ei0ei0ei0ei0ei3ei2ei0ei0e")},
		{ruling(api.Ruling{Case: 10, Instance: 1, Kind: 4, Club: 5, Season: 4, Comp: 2, Points: 3}),
			what("4", "i10ei1ei4eli0ei0ei0ei0eei5ei0ei4ei2ei3ei0ei0ei0ei0ei0e")},
		{ruling(api.Ruling{Case: 11, Instance: 1, Kind: 5, Club: 5, Days: api.Interval{From: 100, To: 200}}),
			what("4", "i11ei1ei5eli0ei0ei0ei0eei5ei0ei0ei0ei0ei0ei0ei0ei100ei200e")},
		{ruling(api.Ruling{Case: 12, Instance: 1, Kind: 6, Player: 11, Days: api.Interval{From: 100, To: 100}}),
			what("4", "i12ei1ei6eli0ei0ei0ei0eei0ei11ei0ei0ei0ei0ei0ei0ei100ei100e")},
		{ruling(api.Ruling{Case: 13, Instance: 2, Kind: 7, Club: 5, Amount: 1 << 50}),
			what("4", "i13ei2ei7eli0ei0ei0ei0eei5ei0ei0ei0ei0ei1125899906842624ei0ei0ei0ei0e")},
		{ruling(api.Ruling{Case: 1 << 20, Instance: 2, Kind: 8}), what("4", "i1048576ei2ei8eli0ei0ei0ei0eei0ei0ei0ei0ei0ei0ei0ei0ei0ei0e")},
		{appeal(api.Appeal{Case: 7, Instance: 1, Suspends: true}), what("5", "i7ei1ei1e")},
		{appeal(api.Appeal{Case: 7, Instance: 2}), what("5", "i7ei2ei0e")},
		{lot(api.Lot{Season: 4, Comp: 2, Order: []int{7, 1, 5}}), what("7", "i4ei2eli7ei1ei5ee")},
		{void(digestOf('A')), what("8", "32:ABCDEFGHIJKLMNOPQRSTUVWXYZ[\\]^_`")},
		{api.Fact{Kind: api.VoidF, Known: api.MaxDay}, "d3:dayi0e4:kindi8e5:knowni1048576e4:whatl32:" + strings.Repeat("\x00", 32) + "ee"},
	}
}

// refuses reports an error if Decode accepts the bytes.
func refuses(t *testing.T, b []byte) {
	t.Helper()
	if f, e := facts.Decode(b); e != api.ErrFact || !sameOf(f, api.Fact{}) {
		t.Errorf("Decode(%.200q) = %+v, %d, want ErrFact", b, f, e)
	}
}

// P7.2: encodings that are known, in both directions.
func TestKnownEncodings(t *testing.T) {
	for _, x := range known() {
		if b, e := facts.Encode(x.f); string(b) != x.want || e != api.OK {
			t.Errorf("Encode(%+v) = %q, %d, want %q", x.f, b, e, x.want)
		}
		if f, e := facts.Decode([]byte(x.want)); !sameOf(f, x.f) || e != api.OK {
			t.Errorf("Decode(%q) = %+v, %d, want %+v", x.want, f, e, x.f)
		}
	}
}

// P7.2: a fact that is not valid has neither an encoding nor an identifier, and what would be its encoding is none.
func TestEncodeOfWrongFacts(t *testing.T) {
	for _, f := range invalid() {
		if b, e := facts.Encode(f); len(b) != 0 || e != api.ErrFact {
			t.Errorf("Encode(%+v) = %q, %d, want ErrFact", f, b, e)
		}
		if d, e := facts.ID(f); d != (api.Digest{}) || e != api.ErrFact {
			t.Errorf("ID(%+v) = %x, %d, want ErrFact", f, d, e)
		}
		if fieldOf[f.Kind] != "" && othersAreZero(f, "Kind Day Known "+fieldOf[f.Kind]) {
			refuses(t, []byte(wouldBe(f)))
		}
	}
}

// wouldBe is what the encoding of a fact of one of the kinds would be if the fact were valid.
func wouldBe(f api.Fact) string {
	v := whole(number(f.Day), number(f.Kind), number(f.Known), list())
	b, _ := codec.Encode(v)
	return strings.TrimSuffix(string(b), "lee") + "l" + whatOf(f) + "ee"
}

func number(n int) api.Value { return api.Value{Kind: api.IntV, N: n} }

func text(s string) api.Value { return api.Value{Kind: api.TextV, S: s} }

func list(l ...api.Value) api.Value { return api.Value{Kind: api.ListV, L: l} }

func dict(keys string, l ...api.Value) api.Value {
	return api.Value{Kind: api.DictV, Keys: strings.Fields(keys), L: l}
}

func whole(day, kind, known, what api.Value) api.Value {
	return dict("day kind known what", day, kind, known, what)
}

// P7.2: facts with parts changed are encoded as the chapter says, and what would be the encoding of one that is not
// valid is refused.
func TestEncodingsOfChangedFacts(t *testing.T) {
	for _, f := range samples() {
		for _, c := range changes(f) {
			for _, n := range []int{-2, -1, 0, 1, 2, 24, 300, 1 << 20, 1<<20 + 1} {
				g := f
				c.make(&g, n)
				b, e := facts.Encode(g)
				if string(b) != encodingOf(g) || (e == api.OK) != valid(g) {
					t.Errorf("Encode(%+v) = %q, %d, want %q", g, b, e, encodingOf(g))
				}
				if e == api.OK {
					back(t, g, b)
				} else if fieldOf[g.Kind] != "" && othersAreZero(g, "Kind Day Known "+fieldOf[g.Kind]) {
					refuses(t, []byte(wouldBe(g)))
				}
			}
		}
	}
}

// back reports an error unless the bytes are decoded to the fact.
func back(t *testing.T, f api.Fact, b []byte) {
	t.Helper()
	if g, e := facts.Decode(b); e != api.OK || !sameOf(g, f) || !facts.Same(g, f) {
		t.Errorf("Decode(%q) = %+v, %d, want %+v", b, g, e, f)
	}
}

// P7.2: bytes that are no encoding of a value, and encodings of values that are no facts.
func TestDecodeOfNoFact(t *testing.T) {
	what := list(number(5), number(2))
	for _, s := range []string{
		"", "d", "de", "le", "0:", "i6e", "li9ei6ei10eli5ei2eee", "x",
		"d3:dayi9e4:kindi6e5:knowni10e4:whatli5ei2ee", "d3:dayi9e4:kindi6e5:knowni10e4:whatli5ei2eeee",
		"d3:dayi9e4:kindi6e5:knowni10e4:whatli5ei2eee ", " d3:dayi9e4:kindi6e5:knowni10e4:whatli5ei2eee",
		"d3:dayi09e4:kindi6e5:knowni10e4:whatli5ei2eee", "d3:dayi9e4:kindi6e5:knowni10e4:whatli5ei02eee",
		"d4:kindi6e3:dayi9e5:knowni10e4:whatli5ei2eee", "d3:dayi9e4:whatli5ei2ee4:kindi6e5:knowni10ee",
		"d3:dayi9e3:dayi9e4:kindi6e5:knowni10e4:whatli5ei2eee", "d3:Dayi9e4:Kindi6e5:Knowni10e4:Whatli5ei2eee",
	} {
		refuses(t, []byte(s))
	}
	for _, v := range []api.Value{
		dict("kind known what", number(6), number(10), what), dict("day known what", number(9), number(10), what),
		dict("day kind what", number(9), number(6), what), dict("day kind known", number(9), number(6), number(10)),
		dict("day kind known what x", number(9), number(6), number(10), what, number(0)),
		dict("a day kind known what", number(0), number(9), number(6), number(10), what),
		list(number(9), number(6), number(10), what), list(dict("day kind known what", number(9), number(6), number(10), what)),
		whole(text("9"), number(6), number(10), what), whole(number(9), text("6"), number(10), what),
		whole(number(9), number(6), text("10"), what), whole(number(9), number(6), number(10), text("li5ei2ee")),
		whole(number(9), number(6), number(10), dict("a b", number(5), number(2))), whole(list(number(9)), number(6), number(10), what),
		whole(number(9), number(6), number(10), number(5)), whole(number(9), number(6), number(10), list(what)),
		whole(number(9), number(0), number(10), what), whole(number(9), number(9), number(10), what),
		whole(number(9), number(-6), number(10), what), whole(number(9), number(1<<32+6), number(10), what),
		whole(number(-1), number(6), number(10), what), whole(number(9), number(6), number(1<<20+1), what),
		whole(number(9), number(6), number(10), list()), whole(number(0), number(0), number(0), list()),
	} {
		refuses(t, encoded(t, v))
	}
}

func encoded(t *testing.T, v api.Value) []byte {
	t.Helper()
	b, e := codec.Encode(v)
	if e != api.OK {
		t.Fatalf("%v has no encoding", v)
	}
	return b
}

// others has values to put in the place of one, most of them of another type.
func others(v api.Value) []api.Value {
	l := []api.Value{
		number(v.N + 1), number(v.N - 1), number(-1), number(2), number(3), text(""), text("a"), text(v.S + "\x00"), list(), list(v), list(v, v),
		dict(""), dict("a", v), {Kind: api.DictV, Keys: make([]string, min(len(v.L), 1)), L: v.L[:min(len(v.L), 1)]},
	}
	if len(v.S) > 0 {
		l = append(l, text(v.S[1:]), text(v.S[:len(v.S)-1]), text(v.S+v.S))
	}
	if v.Kind == api.IntV {
		l = append(l, text(string(rune('0'+v.N&7))), list(number(v.N)))
	}
	return l
}

// near has values that differ from the given one in one place, at whatever depth: with an element too few or too many,
// or with another one in its place.
func near(v api.Value) (l []api.Value) {
	l = others(v)
	for i, x := range v.L {
		with := func(elements ...api.Value) {
			w := v
			w.L = slices.Concat(v.L[:i], elements, v.L[i+1:])
			l = append(l, w)
		}
		for _, y := range near(x) {
			with(y)
		}
		if v.Kind == api.ListV {
			with()
			with(x, x)
			with(number(0), x)
			with(x, number(0))
			with(x, text(""))
			with(x, list())
		}
	}
	return l
}

// P7.2: of the values that are nearly those of a fact, exactly those are decoded that are the encoding of one.
func TestDecodeOfNearlyFacts(t *testing.T) {
	for _, x := range known() {
		v, e := codec.Decode([]byte(x.want))
		if e != api.OK {
			t.Fatal(x.want, e)
		}
		accepted, tried := 0, 0
		for _, w := range near(v) {
			b := encoded(t, w)
			if string(b) == x.want {
				continue
			}
			tried++
			f, e := facts.Decode(b)
			if e != api.OK {
				refuses(t, b)
				if g, ok := factOf(w); ok {
					t.Errorf("Decode(%q) = %d, but it is the encoding of %+v", b, e, g)
				}
				continue
			}
			accepted++
			if encodingOf(f) != string(b) {
				t.Errorf("Decode(%q) = %+v, whose encoding is %q", b, f, encodingOf(f))
			}
		}
		if tried < 50 || accepted*2 > tried {
			t.Errorf("%q: %d of %d values are accepted", x.want, accepted, tried)
		}
	}
}

// factOf finds the valid fact with a value in another way than Decode: of the numbers in the value, by the lengths of
// its lists. It finds moves, appeals, lots and fixtures.
func factOf(v api.Value) (f api.Fact, ok bool) {
	if v.Kind != api.DictV || len(v.L) != 4 || v.L[3].Kind != api.ListV {
		return f, false
	}
	f = api.Fact{Day: v.L[0].N, Kind: v.L[1].N, Known: v.L[2].N}
	l := v.L[3].L
	switch {
	case f.Kind == 6 && len(l) == 2:
		f.Move = api.Move{Player: l[0].N, To: l[1].N}
	case f.Kind == 5 && len(l) == 3:
		f.Appeal = api.Appeal{Case: l[0].N, Instance: l[1].N, Suspends: l[2].N == 1}
	case f.Kind == 7 && len(l) == 3:
		f.Lot = api.Lot{Season: l[0].N, Comp: l[1].N}
		for _, x := range l[2].L {
			f.Lot.Order = append(f.Lot.Order, x.N)
		}
	case f.Kind == 2 && len(l) == 2 && len(l[0].L) == 4:
		g := l[0].L
		f.Fixture = api.Fixture{Game: api.Game{Season: g[0].N, Comp: g[1].N, Home: g[2].N, Away: g[3].N}, Venue: l[1].N}
	default:
		return f, false
	}
	b, _ := codec.Encode(v)
	return f, encodingOf(f) == string(b)
}

// P7.2: truth values are 1 or 0.
func TestTruthValues(t *testing.T) {
	for n := -3; n <= 300; n++ {
		a := whole(number(9), number(api.AppealF), number(10), list(number(7), number(1), number(n)))
		cards := list(list(number(5), number(n)))
		squad := list(number(5))
		g := list(number(4), number(2), number(5), number(7))
		s := whole(number(9), number(api.SheetF), number(10),
			list(g, number(0), number(0), number(0), number(0), number(0), squad, list(), cards, list()))
		for _, v := range []api.Value{a, s} {
			b := encoded(t, v)
			f, e := facts.Decode(b)
			if n != 0 && n != 1 {
				refuses(t, b)
			} else if e != api.OK || f.Appeal.Suspends != (f.Kind == api.AppealF && n == 1) || f.Kind == api.SheetF && f.Sheet.HomeCards[0].Red != (n == 1) {
				t.Errorf("Decode(%q) = %+v, %d", b, f, e)
			}
		}
	}
}

// P7.2: the lists `what` of each kind with fewer and with more elements, and with elements of another type.
func TestListsWhat(t *testing.T) {
	for _, x := range known() {
		v, _ := codec.Decode([]byte(x.want))
		what := v.L[3].L
		with := func(l ...api.Value) []byte { return encoded(t, whole(v.L[0], v.L[1], v.L[2], list(l...))) }
		for i, y := range what {
			refuses(t, with(what[:i]...))
			refuses(t, with(what[i+1:]...))
			refuses(t, with(slices.Concat(what[:i], what[i+1:])...))
			for _, z := range []api.Value{number(0), text(""), list(), dict(""), y} {
				refuses(t, with(slices.Concat(what[:i+1], []api.Value{z}, what[i+1:])...))
				if z.Kind != y.Kind {
					refuses(t, with(slices.Concat(what[:i], []api.Value{z}, what[i+1:])...))
				}
			}
		}
	}
}

// P7.2: a text of another length than that of a digest.
func TestLengthsOfDigests(t *testing.T) {
	for n := range 100 {
		b := encoded(t, whole(number(0), number(api.VoidF), number(0), list(text(strings.Repeat("\x00", n)))))
		if n != 32 {
			refuses(t, b)
		} else {
			back(t, api.Fact{Kind: api.VoidF}, b)
		}
	}
}

// damaged has the bytes with one of them changed, left out or added.
func damaged(r *rand.Rand, b []byte) []byte {
	i := r.IntN(len(b))
	c := byte(r.Uint32())
	if r.IntN(4) > 0 {
		c = "ilde:-0123456789"[r.IntN(16)]
	}
	switch r.IntN(4) {
	case 0:
		return slices.Concat(b[:i], b[i+1:])
	case 1:
		return slices.Concat(b[:i], []byte{c}, b[i:])
	}
	return slices.Concat(b[:i], []byte{c}, b[i+1:])
}

// P7.2, P7.4: bytes that are nearly an encoding are refused, or are the encoding of what is decoded.
func TestDamagedBytes(t *testing.T) {
	r := rand.New(rand.NewPCG(7, 2))
	accepted := 0
	all := samples()
	for range 40000 {
		b, _ := facts.Encode(all[r.IntN(len(all))])
		near := damaged(r, b)
		f, e := facts.Decode(near)
		if e != api.OK {
			refuses(t, near)
			continue
		}
		accepted++
		if again, e := facts.Encode(f); e != api.OK || !bytes.Equal(again, near) || encodingOf(f) != string(near) {
			t.Errorf("%q is decoded to %+v, which is encoded as %q, %d", near, f, again, e)
		}
	}
	if accepted < 1000 {
		t.Errorf("only %d damaged encodings are encodings", accepted)
	}
}

// P7.2: an encoding that is cut short, or that has bytes behind it, is none.
func TestDecodeOfPartsAndMore(t *testing.T) {
	for _, x := range known() {
		for n := range len(x.want) {
			refuses(t, []byte(x.want[:n]))
		}
		for _, more := range []string{"e", "i1e", "0:", " ", "\x00", x.want} {
			refuses(t, []byte(x.want+more))
		}
	}
}

// P7.2: identifiers, by their definition and one that is known.
func TestID(t *testing.T) {
	seen := map[api.Digest]bool{}
	for _, f := range samples() {
		d, e := facts.ID(f)
		if d != idOf(f) || e != api.OK {
			t.Errorf("ID(%+v) = %x, %d, want %x", f, d, e, idOf(f))
		}
		if again, _ := facts.ID(copied(f)); again != d || seen[d] {
			t.Errorf("ID(%+v) = %x is that of another fact, or %x", f, d, again)
		}
		seen[d] = true
	}
	d, _ := facts.ID(move(api.Move{Player: 5, To: 2}))
	if s := hex.EncodeToString(d[:]); s != "1ffbead2c919792b1c270339f41cdce9d04096ab08cdaff67c3ceb2362577d1a" {
		t.Errorf("the identifier of the example is %s", s)
	}
}

// R2: arguments stay as they are, and a fact that was decoded stays as it is when its bytes change.
func TestArgumentsAreKept(t *testing.T) {
	for _, f := range append(samples(), invalid()...) {
		before := copied(f)
		facts.Check(f)
		facts.ID(f)
		facts.Compare(f, before)
		facts.Same(f, before)
		b, e := facts.Encode(f)
		if !sameOf(f, before) {
			t.Errorf("%+v has become %+v", before, f)
		}
		if e != api.OK {
			continue
		}
		g, _ := facts.Decode(b)
		if string(b) != encodingOf(f) {
			t.Errorf("Decode has changed its argument to %q", b)
		}
		clear(b)
		again, _ := facts.Encode(f)
		if !sameOf(g, f) || string(again) != encodingOf(f) {
			t.Errorf("%+v has changed with its bytes, to %+v and %q", f, g, again)
		}
	}
}

// R1: long bytes are read in the time of their length.
func TestDecodeOfLongBytes(t *testing.T) {
	many := strings.Repeat("i1e", 1<<17)
	for _, what := range []string{
		many, "i0ei0el" + many + "e0:", "i0ei0el" + many + "e", "li0ei0ei1ei2eei0ei0ei0ei0ei0el" + many + "elelele",
		"li0ei0ei1ei2eei0ei0ei0ei0ei0eli1eelel" + strings.Repeat("li1ei0ee", 1<<17) + "ele", "li0ei0ei1ei2e" + many + "ei0e",
		"i0ei0eli1ei2ee1048576:" + strings.Repeat("a", 1<<20), "1048576:" + strings.Repeat("a", 1<<20),
	} {
		for kind := range 10 {
			refuses(t, fmt.Appendf(nil, "d3:dayi9e4:kindi%de5:knowni10e4:whatl%see", kind, what))
		}
	}
}

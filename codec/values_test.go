package codec_test

import (
	"math"
	"strings"
	"testing"

	"assize/api"
	"assize/codec"
)

func number(n int) api.Value { return api.Value{Kind: api.IntV, N: n} }

func text(s string) api.Value { return api.Value{Kind: api.TextV, S: s} }

func list(l ...api.Value) api.Value { return api.Value{Kind: api.ListV, L: l} }

func dict(keys []string, l ...api.Value) api.Value {
	return api.Value{Kind: api.DictV, Keys: keys, L: l}
}

func keys(k ...string) []string { return k }

// wrap puts a value into lists and dictionaries, one within the other, that begin with a list.
func wrap(v api.Value, levels int) api.Value {
	for i := levels; i > 0; i-- {
		if i%2 == 0 {
			v = dict(keys("k"), v)
		} else {
			v = list(v)
		}
	}
	return v
}

// lists has empty lists, one within the other.
func lists(levels int) api.Value {
	v := list()
	for range levels - 1 {
		v = list(v)
	}
	return v
}

// dicts has dictionaries, one within the other.
func dicts(levels int) api.Value {
	v := dict(nil)
	for range levels - 1 {
		v = dict(keys(""), v)
	}
	return v
}

// copied shares no memory with the value, nor does it keep the difference of nil and empty.
func copied(v api.Value) api.Value {
	c := v
	c.Keys = append([]string{}, v.Keys...)
	c.L = []api.Value{}
	for _, x := range v.L {
		c.L = append(c.L, copied(x))
	}
	return c
}

// malformed has values that are not well-formed, each for one reason.
func malformed() []api.Value {
	one := []api.Value{number(1)}
	two := []api.Value{number(1), number(2)}
	return []api.Value{
		{},
		{Kind: -1}, {Kind: 5}, {Kind: math.MinInt}, {Kind: math.MaxInt}, {Kind: 0, N: 1},
		{Kind: api.IntV, N: 1, S: "a"}, {Kind: api.IntV, N: 1, L: one}, {Kind: api.IntV, N: 1, Keys: keys("")},
		{Kind: api.TextV, S: "a", N: 1}, {Kind: api.TextV, S: "a", L: one}, {Kind: api.TextV, S: "a", Keys: keys("")},
		{Kind: api.ListV, L: one, N: -1}, {Kind: api.ListV, L: one, S: " "}, {Kind: api.ListV, L: one, Keys: keys("a")},
		{Kind: api.ListV, N: 1}, {Kind: api.ListV, S: "a"}, {Kind: api.ListV, Keys: keys("a")},
		{Kind: api.DictV, L: one, Keys: keys("a"), N: 1}, {Kind: api.DictV, L: one, Keys: keys("a"), S: "a"},
		{Kind: api.DictV, N: 1}, {Kind: api.DictV, S: "a"},
		dict(nil, number(1)), dict(keys("a")), dict(keys("a"), two...), dict(keys("a", "b"), one...),
		dict(keys("a", "a"), two...), dict(keys("", ""), two...), dict(keys("b", "a"), two...),
		dict(keys("a", ""), two...), dict(keys("aa", "a"), two...), dict(keys("a", "B"), two...),
		dict(keys("\xff", "z"), two...), dict(keys("a", "a\x00", "a"), number(1), number(2), number(3)),
		dict(keys("10", "90", "9"), number(1), number(2), number(0)), dict(keys("9", "10"), two...),
	}
}

// wellFormed has different values that Check accepts.
func wellFormed() []api.Value {
	return []api.Value{
		number(0), number(1), number(-1), number(10), number(-3), number(math.MaxInt), number(math.MinInt),
		text(""), text("a"), text("ab"), text("e"), text("i1e"), text("0:"), text("\x00"), text("\xff\xfe"),
		text("ä"), text(strings.Repeat("x", 1000)),
		list(), list(number(0)), list(number(-3), text("ab")), list(list()), list(list(), list()), list(dict(nil)),
		list(number(1), number(1)), list(text(""), text("")),
		dict(nil), dict(keys(""), number(0)), dict(keys("a"), number(0)), dict(keys("a"), list()),
		dict(keys("", "a"), number(1), number(2)), dict(keys("a", "b"), number(1), number(1)),
		dict(keys("a", "aa", "ab", "b"), text("a"), text("a"), text("a"), text("a")),
		dict(keys("B", "a", "z", "\xff"), number(1), list(), dict(nil), text("")),
		dict(keys("10", "9"), number(1), number(2)), dict(keys("a", "a\x00"), number(1), number(2)),
		lists(3), lists(api.MaxDepth), dicts(2), dicts(api.MaxDepth), wrap(number(7), api.MaxDepth),
		list(number(1), wrap(text("deep"), api.MaxDepth-1), number(2)),
	}
}

// P2.1: what is well-formed, and what is not, for each reason.
func TestCheck(t *testing.T) {
	for _, v := range wellFormed() {
		if e := codec.Check(v); e != api.OK {
			t.Errorf("Check(%v) = %d", v, e)
		}
	}
	for _, v := range malformed() {
		if e := codec.Check(v); e != api.ErrArg {
			t.Errorf("Check(%v) = %d, want ErrArg", v, e)
		}
	}
}

// P2.1: an element that is not well-formed is an error wherever it stands.
func TestCheckOfElements(t *testing.T) {
	for _, v := range malformed() {
		for _, x := range []api.Value{
			list(v), list(v, number(1)), list(number(1), list(), v), list(list(list(v))), list(lists(9), v),
			dict(keys("a"), v), dict(keys("a", "b"), v, list()), dict(keys("a", "b"), list(), v),
			wrap(v, api.MaxDepth),
		} {
			if e := codec.Check(x); e != api.ErrArg {
				t.Errorf("Check(%v) = %d, want ErrArg", x, e)
			}
		}
	}
}

// P2.1: texts and integers have no depth, empty lists and dictionaries have depth 1.
func TestCheckOfDepth(t *testing.T) {
	for _, v := range []api.Value{
		lists(16), dicts(16), wrap(number(1), 16), wrap(text("a"), 16), wrap(list(), 15), wrap(dict(nil), 15),
		list(lists(15), number(1), lists(15)), dict(keys("a", "b"), dicts(15), lists(15)),
	} {
		if e := codec.Check(v); e != api.OK {
			t.Errorf("Check(%v) = %d", v, e)
		}
	}
	for _, v := range []api.Value{
		lists(17), dicts(17), wrap(number(1), 17), wrap(text("a"), 17), wrap(list(), 16), wrap(dict(nil), 16),
		list(lists(16), number(1)), list(number(1), lists(16)), list(lists(1), lists(16), lists(2)),
		dict(keys("a", "b"), dicts(16), list()), dict(keys("a", "b"), list(), dicts(16)),
		lists(18), lists(1000), dicts(1 << 16), wrap(number(1), 1<<16),
	} {
		if e := codec.Check(v); e != api.ErrLimit {
			t.Errorf("Check = %d, want ErrLimit", e)
		}
	}
}

// P2.1, R1: what is not well-formed is so at any depth, before the depth counts.
func TestCheckOfDepthAndForm(t *testing.T) {
	for _, v := range malformed() {
		for _, x := range []api.Value{wrap(v, 17), wrap(v, 1<<12), list(lists(17), v), list(v, lists(17))} {
			if e := codec.Check(x); e != api.ErrArg {
				t.Errorf("Check = %d, want ErrArg, with %v", e, v)
			}
		}
	}
}

// fieldsApart has pairs of values that differ in one field each.
func fieldsApart() [][2]api.Value {
	v := dict(keys("a", "b"), number(1), list(text("x")))
	more := v
	more.N = 1
	named := v
	named.S = "s"
	other := v
	other.Kind = 9
	return [][2]api.Value{
		{v, more}, {v, named}, {v, other},
		{v, dict(keys("a", "c"), number(1), list(text("x")))},
		{v, dict(keys("b", "a"), number(1), list(text("x")))},
		{v, dict(keys("a"), number(1), list(text("x")))},
		{v, dict(keys("a", "b", ""), number(1), list(text("x")))},
		{v, dict(nil, number(1), list(text("x")))},
		{v, dict(keys("a", "b"), number(2), list(text("x")))},
		{v, dict(keys("a", "b"), number(1), list(text("y")))},
		{v, dict(keys("a", "b"), number(1), list())},
		{v, dict(keys("a", "b"), list(text("x")), number(1))},
		{v, dict(keys("a", "b"), number(1))},
		{v, dict(keys("a", "b"), number(1), list(text("x")), api.Value{})},
		{v, {}}, {number(1), number(-1)}, {number(0), text("")}, {text(""), list()}, {list(), dict(nil)},
		{text("ab"), text("abc")}, {text("a"), text("A")},
		{list(), list(list())}, {list(), list(api.Value{})}, {dict(nil), dict(keys(""))},
		{{}, {Kind: -1}}, {{}, {L: []api.Value{{}}}}, {{}, {Keys: keys("")}}, {{}, {S: "\x00"}}, {{}, {N: math.MinInt}},
		{lists(1 << 12), lists(1<<12 + 1)}, {wrap(number(1), 1<<12), wrap(number(2), 1<<12)},
	}
}

// P2.3: a value equals itself and its copies, well-formed or not, and nothing else.
func TestSame(t *testing.T) {
	all := append(wellFormed(), malformed()...)
	for i, a := range all {
		for k, b := range all {
			if same := codec.Same(a, copied(b)); same != (i == k) {
				t.Errorf("Same(%v, %v) = %t", a, b, same)
			}
		}
	}
	for _, p := range fieldsApart() {
		for _, v := range p {
			if !codec.Same(v, copied(v)) {
				t.Errorf("%v is not the same as its copy", v)
			}
		}
		if codec.Same(p[0], p[1]) || codec.Same(p[1], p[0]) {
			t.Errorf("%v and %v are the same", p[0], p[1])
		}
	}
}

// P2.3: nil and empty slices are equal, in every element.
func TestSameOfEmptySlices(t *testing.T) {
	for kind := -1; kind <= 5; kind++ {
		none := api.Value{Kind: kind}
		empty := api.Value{Kind: kind, L: []api.Value{}, Keys: []string{}}
		for _, p := range [][2]api.Value{{none, empty}, {empty, none}, {list(none), list(empty)}, {dict(keys("a"), empty), dict(keys("a"), none)}} {
			if !codec.Same(p[0], p[1]) {
				t.Errorf("%#v and %#v are not the same", p[0], p[1])
			}
		}
	}
	if !codec.Same(dicts(1<<16), copied(dicts(1<<16))) {
		t.Error("a deep value is not the same as its copy")
	}
}

// P2.3: Get finds the element of a key, in dictionaries only, and takes values that are not well-formed.
func TestGet(t *testing.T) {
	for _, x := range []struct {
		v    api.Value
		key  string
		want api.Value
		ok   bool
	}{
		{dict(keys("a", "b", "c"), number(1), list(text("x")), dict(nil)), "a", number(1), true},
		{dict(keys("a", "b", "c"), number(1), list(text("x")), dict(nil)), "b", list(text("x")), true},
		{dict(keys("a", "b", "c"), number(1), list(text("x")), dict(nil)), "c", dict(nil), true},
		{dict(keys("a", "b", "c"), number(1), list(text("x")), dict(nil)), "d", api.Value{}, false},
		{dict(keys("a", "b", "c"), number(1), list(text("x")), dict(nil)), "", api.Value{}, false},
		{dict(keys("a", "b", "c"), number(1), list(text("x")), dict(nil)), "A", api.Value{}, false},
		{dict(keys("", "a"), number(1), number(2)), "", number(1), true},
		{dict(keys("ab"), number(1)), "a", api.Value{}, false},
		{dict(keys("ab"), number(1)), "abc", api.Value{}, false},
		{dict(keys("\xff"), number(1)), "\xff", number(1), true},
		{dict(nil), "", api.Value{}, false},
		{dict(nil), "a", api.Value{}, false},
		// The first key counts, however many are equal and in whatever order they are.
		{dict(keys("b", "a", "a"), number(1), number(2), number(3)), "a", number(2), true},
		{dict(keys("a", "a"), number(1), number(2)), "a", number(1), true},
		{dict(keys("c", "b", "a"), number(1), number(2), number(3)), "a", number(3), true},
		{dict(keys("a", "b"), number(1)), "a", number(1), true},
		{dict(keys("a", "b"), number(1)), "b", api.Value{}, false},
		{dict(keys("a", "b", "a"), number(1)), "a", number(1), true},
		{dict(keys("a")), "a", api.Value{}, false},
		{dict(nil, number(1)), "", api.Value{}, false},
		{dict(keys("a"), number(1), number(2)), "a", number(1), true},
		{dict(keys("a"), api.Value{Kind: 7, S: "s"}), "a", api.Value{Kind: 7, S: "s"}, true},
		{dict(keys("a"), api.Value{}), "a", api.Value{}, true},
		{api.Value{Kind: api.DictV, N: 1, S: "s", Keys: keys("a"), L: []api.Value{number(1)}}, "a", number(1), true},
		{api.Value{Keys: keys("a"), L: []api.Value{number(1)}}, "a", api.Value{}, false},
		{api.Value{Kind: api.IntV, Keys: keys("a"), L: []api.Value{number(1)}}, "a", api.Value{}, false},
		{api.Value{Kind: api.TextV, Keys: keys("a"), L: []api.Value{number(1)}}, "a", api.Value{}, false},
		{api.Value{Kind: api.ListV, Keys: keys("a"), L: []api.Value{number(1)}}, "a", api.Value{}, false},
		{api.Value{Kind: 5, Keys: keys("a"), L: []api.Value{number(1)}}, "a", api.Value{}, false},
		{list(text("a"), number(1)), "a", api.Value{}, false},
		{text("a"), "a", api.Value{}, false},
		{api.Value{}, "", api.Value{}, false},
		// Only the elements of the dictionary itself are looked at.
		{dict(keys("a"), dict(keys("b"), number(1))), "b", api.Value{}, false},
	} {
		v, ok := codec.Get(x.v, x.key)
		if ok != x.ok || !codec.Same(v, x.want) {
			t.Errorf("Get(%v, %q) = %v, %t, want %v, %t", x.v, x.key, v, ok, x.want, x.ok)
		}
	}
}

// R2: no function changes its arguments.
func TestArgumentsAreKept(t *testing.T) {
	for _, v := range append(wellFormed(), malformed()...) {
		before := copied(v)
		codec.Check(v)
		codec.Encode(v)
		codec.Same(v, before)
		codec.Get(v, "a")
		if !codec.Same(v, before) {
			t.Errorf("%v has become %v", before, v)
		}
	}
}

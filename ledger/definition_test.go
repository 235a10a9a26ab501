package ledger_test

import (
	"assize/api"
	"assize/facts"
)

// What the chapter defines, as it is written there, without regard to speed.

func contains(l []api.Fact, f api.Fact) bool {
	for _, g := range l {
		if facts.Same(f, g) {
			return true
		}
	}
	return false
}

func errorOfFacts(l []api.Fact) api.Errno {
	for _, f := range l {
		if e := facts.Check(f); e != api.OK {
			return e
		}
	}
	return api.OK
}

// inOrder has each of the facts once, where all those that are less come before it.
func inOrder(l []api.Fact) (x []api.Fact) {
	for _, f := range l {
		if contains(x, f) {
			continue
		}
		less := 0
		for _, g := range x {
			if facts.Compare(g, f) == -1 {
				less++
			}
		}
		x = with(x, less, f)
	}
	return x
}

func newOf(l []api.Fact) (api.Ledger, api.Errno) {
	if e := errorOfFacts(l); e != api.OK {
		return api.Ledger{}, e
	}
	x := inOrder(l)
	if len(x) > mostFacts {
		return api.Ledger{}, api.ErrLimit
	}
	return of(x...), api.OK
}

func checkOf(x api.Ledger) api.Errno {
	if len(x.Facts) > mostFacts {
		return api.ErrLimit
	}
	if e := errorOfFacts(x.Facts); e != api.OK {
		return e
	}
	for i := range x.Facts {
		if i > 0 && facts.Compare(x.Facts[i-1], x.Facts[i]) != -1 {
			return api.ErrLedger
		}
	}
	return api.OK
}

func addOf(x api.Ledger, f api.Fact) (api.Ledger, bool, api.Errno) {
	if e := checkOf(x); e != api.OK {
		return api.Ledger{}, false, e
	}
	if e := facts.Check(f); e != api.OK {
		return api.Ledger{}, false, e
	}
	if contains(x.Facts, f) {
		return x, false, api.OK
	}
	if len(x.Facts) == mostFacts {
		return api.Ledger{}, false, api.ErrLimit
	}
	return of(inOrder(with(x.Facts, 0, f))...), true, api.OK
}

// errorOfBoth has the error of Check for the first ledger, or else for the second one.
func errorOfBoth(a, b api.Ledger) api.Errno {
	if e := checkOf(a); e != api.OK {
		return e
	}
	return checkOf(b)
}

func mergeOf(a, b api.Ledger) (api.Ledger, api.Errno) {
	if e := errorOfBoth(a, b); e != api.OK {
		return api.Ledger{}, e
	}
	return newOf(with(a.Facts, 0, b.Facts...))
}

func between(n, from, to int) bool { return n >= from && n <= to }

func knownOf(x api.Ledger, known int) (api.Ledger, api.Errno) {
	if e := checkOf(x); e != api.OK {
		return api.Ledger{}, e
	}
	if !between(known, 0, 1048576) {
		return api.Ledger{}, api.ErrArg
	}
	var y api.Ledger
	for _, f := range x.Facts {
		if !(f.Known > known) {
			y.Facts = append(y.Facts, f)
		}
	}
	return y, api.OK
}

func voidedOf(x api.Ledger, f api.Fact, known int) bool {
	id := idOf(f)
	for _, v := range x.Facts {
		if v.Kind == api.VoidF && f.Kind != api.VoidF && v.Known <= known && v.Void == id {
			return true
		}
	}
	return false
}

func viewOf(x api.Ledger, day, known int) (l []api.Fact, e api.Errno) {
	if e := checkOf(x); e != api.OK {
		return nil, e
	}
	if !between(day, 0, 1048576) || !between(known, 0, 1048576) {
		return nil, api.ErrArg
	}
	for _, f := range x.Facts {
		if f.Kind != api.VoidF && f.Known <= known && f.Day <= day && !voidedOf(x, f, known) {
			l = append(l, f)
		}
	}
	return l, api.OK
}

func missingOf(a, b api.Ledger) (l []api.Digest, e api.Errno) {
	if e := errorOfBoth(a, b); e != api.OK {
		return nil, e
	}
	for _, f := range b.Facts {
		if !contains(a.Facts, f) {
			l = append(l, idOf(f))
		}
	}
	return l, api.OK
}

package rulings

import (
	"cmp"

	"assize/api"
	"assize/facts"
)

// trial is what is known of a case. Its arrays are indexed by the numbers of the instances, which begin with 1.
type trial struct {
	standing [api.MaxInstance + 1]*api.Fact // the standing ruling, nil if there is none
	appealed [api.MaxInstance + 1]bool      // whether an appeal suspends what this instance ruled, if it is the last one
}

// with returns the trial when there is a further fact about the case, which is valid.
func (t trial) with(f *api.Fact) trial {
	if f.Kind == api.AppealF {
		t.appealed[f.Appeal.Instance] = t.appealed[f.Appeal.Instance] || f.Appeal.Suspends
		return t
	}
	instance := f.Ruling.Instance
	if t.standing[instance] == nil || facts.Compare(*f, *t.standing[instance]) < 0 {
		t.standing[instance] = f
	}
	return t
}

// last returns the last instance, or 0, which is none, if there are no rulings.
func (t trial) last() int {
	n := api.MaxInstance
	for n > 0 && t.standing[n] == nil {
		n--
	}
	return n
}

func (t trial) isSuspended() bool { return t.appealed[t.last()] }

// inForce returns the fact that is the ruling in force, or nil if there is none.
func (t trial) inForce() *api.Fact {
	if t.isSuspended() {
		return nil
	}
	return t.standing[t.last()]
}

// trials returns what is known of the wanted cases of which there are rulings or appeals, by their numbers.
func trials(l []api.Fact, wanted func(number int) bool) map[int]trial {
	m := map[int]trial{}
	for i := range l {
		f := &l[i]
		number, ok := numberOf(f)
		// Check takes longer than the rest, and most facts of a long list are about something else.
		if ok && wanted(number) && facts.Check(*f) == api.OK {
			m[number] = m[number].with(f)
		}
	}
	return m
}

// numberOf returns the number of the case that a fact is about, and whether it is about one.
func numberOf(f *api.Fact) (number int, ok bool) {
	switch f.Kind {
	case api.RulingF:
		return f.Ruling.Case, true
	case api.AppealF:
		return f.Appeal.Case, true
	}
	return 0, false
}

func caseOf(l []api.Fact, number int) trial {
	return trials(l, func(n int) bool { return n == number })[number]
}

// inForce returns the facts that are rulings in force with a subject, in the order of their cases.
func inForce(l []api.Fact, about func(r api.Ruling) bool) (x []*api.Fact) {
	// In a case in which no instance ever ruled about the subject, the last one did not either.
	numbers := map[int]bool{}
	for i := range l {
		if l[i].Kind == api.RulingF && about(l[i].Ruling) {
			numbers[l[i].Ruling.Case] = true
		}
	}
	for _, t := range inOrder(trials(l, func(n int) bool { return numbers[n] }), cmp.Compare[int]) {
		if f := t.inForce(); f != nil && about(f.Ruling) {
			x = append(x, f)
		}
	}
	return x
}

// voidRulings returns the facts that are void rulings, in canonical order, each once.
func voidRulings(l []api.Fact) []*api.Fact {
	all := trials(l, func(int) bool { return true })
	void := map[key]*api.Fact{}
	for i := range l {
		f := &l[i]
		if f.Kind == api.RulingF && facts.Check(*f) == api.OK && !facts.Same(*f, *all[f.Ruling.Case].standing[f.Ruling.Instance]) {
			void[keyOf(f)] = f
		}
	}
	return inOrder(void, key.compare)
}

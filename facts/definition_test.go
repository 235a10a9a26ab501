package facts_test

import (
	"bytes"
	"cmp"
	"crypto/sha3"
	"fmt"
	"reflect"
	"regexp"
	"strings"

	"assize/api"
)

// What the chapter defines, as it is written there: with the names of the fields, and without regard to speed.

func between(n, from, to int) bool { return n >= from && n <= to }

// inRange are the numbers in range, by what they number. The limits are written as the chapter writes them.
var inRange = map[string]func(n int) bool{
	"season":  func(n int) bool { return between(n, 0, 63) },
	"comp":    func(n int) bool { return between(n, 0, 15) },
	"club":    func(n int) bool { return between(n, 0, 191) },
	"player":  func(n int) bool { return between(n, 0, 8191) },
	"goals":   func(n int) bool { return between(n, 0, 99) },
	"day":     func(n int) bool { return between(n, 0, 1048576) },
	"case":    func(n int) bool { return between(n, 1, 1048576) },
	"venue":   func(n int) bool { return between(n, 0, 4095) },
	"amount":  func(n int) bool { return between(n, 1, 1125899906842624) },
	"points":  func(n int) bool { return between(n, 1, 99) },
	"referee": func(n int) bool { return between(n, 0, 1) },
}

// all reports whether the numbers are in range.
func all(what string, l ...int) bool {
	for _, n := range l {
		if !inRange[what](n) {
			return false
		}
	}
	return true
}

var nameShape = regexp.MustCompile(`\A[a-z][a-z0-9_]{0,23}\z`)

func validGame(g api.Game) bool {
	return all("season", g.Season) && all("comp", g.Comp) && all("club", g.Home, g.Away) && g.Home != g.Away
}

func validInterval(i api.Interval) bool { return all("day", i.From, i.To) && !(i.From > i.To) }

// differ reports whether no two elements of a list are equal.
func differ(l []int) bool {
	for i := range l {
		for k := range i {
			if l[i] == l[k] {
				return false
			}
		}
	}
	return true
}

func increase(l []int) bool {
	for i := range l {
		for k := range i {
			if l[k] >= l[i] {
				return false
			}
		}
	}
	return true
}

func validSquads(s api.Sheet) bool {
	return len(s.HomeSquad) <= 40 && len(s.AwaySquad) <= 40 && all("player", s.HomeSquad...) && all("player", s.AwaySquad...) &&
		increase(s.HomeSquad) && increase(s.AwaySquad) && differ(append(append([]int{}, s.HomeSquad...), s.AwaySquad...))
}

func validCards(l []api.Card, squad []int) bool {
	for _, c := range l {
		found := false
		for _, p := range squad {
			found = found || p == c.Player
		}
		if !found {
			return false
		}
	}
	return len(l) <= 40
}

func validPenalties(s api.Sheet) bool {
	zero := s.HomePens == 0 && s.AwayPens == 0
	cup := between(s.Game.Comp, 8, 15)
	return zero || cup && all("goals", s.HomePens, s.AwayPens) && s.HomePens != s.AwayPens
}

// fieldOf has the name of the field of each kind of facts.
var fieldOf = map[int]string{1: "Entrants", 2: "Fixture", 3: "Sheet", 4: "Ruling", 5: "Appeal", 6: "Move", 7: "Lot", 8: "Void"}

// fieldsOfRuling has the names of the fields that a ruling of each kind uses.
var fieldsOfRuling = map[int]string{
	1: "Game Club", 2: "Game", 3: "Game HomeGoals AwayGoals", 4: "Club Season Comp Points", 5: "Club Days", 6: "Player Days",
	7: "Club Amount", 8: "",
}

// othersAreZero reports whether the fields of a structure that are not named are zero; slices need only be empty.
func othersAreZero(x any, names string) bool {
	v := reflect.ValueOf(x)
	for i := range v.NumField() {
		if !strings.Contains(" "+names+" ", " "+v.Type().Field(i).Name+" ") && !isZero(v.Field(i)) {
			return false
		}
	}
	return true
}

func isZero(v reflect.Value) bool {
	switch v.Kind() {
	case reflect.Slice:
		return v.Len() == 0
	case reflect.Struct:
		for i := range v.NumField() {
			if !isZero(v.Field(i)) {
				return false
			}
		}
		return true
	}
	return v.IsZero()
}

func validRuling(r api.Ruling) bool {
	names, is := fieldsOfRuling[r.Kind]
	if !is || !all("case", r.Case) || !between(r.Instance, 1, 3) || !othersAreZero(r, "Case Instance Kind "+names) {
		return false
	}
	switch r.Kind {
	case 1:
		return validGame(r.Game) && (r.Club == r.Game.Home || r.Club == r.Game.Away)
	case 2:
		return validGame(r.Game)
	case 3:
		return validGame(r.Game) && all("goals", r.HomeGoals, r.AwayGoals)
	case 4:
		return all("club", r.Club) && all("season", r.Season) && all("comp", r.Comp) && all("points", r.Points)
	case 5:
		return all("club", r.Club) && validInterval(r.Days)
	case 6:
		return all("player", r.Player) && validInterval(r.Days)
	case 7:
		return all("club", r.Club) && all("amount", r.Amount)
	}
	return true
}

// valid is what Check decides.
func valid(f api.Fact) bool {
	name, is := fieldOf[f.Kind]
	if !is || !all("day", f.Day, f.Known) || !othersAreZero(f, "Kind Day Known "+name) {
		return false
	}
	switch x := f.Entrants; f.Kind {
	case 1:
		return all("season", x.Season) && all("comp", x.Comp) && between(len(x.Clubs), 2, 24) && all("club", x.Clubs...) &&
			increase(x.Clubs) && (x.Comp <= 7 && nameShape.MatchString(x.Rules) || x.Comp >= 8 && x.Rules == "")
	case 2:
		return validGame(f.Fixture.Game) && all("venue", f.Fixture.Venue)
	case 3:
		s := f.Sheet
		return validGame(s.Game) && all("referee", s.Referee) && all("goals", s.HomeGoals, s.AwayGoals) && validPenalties(s) &&
			validSquads(s) && validCards(s.HomeCards, s.HomeSquad) && validCards(s.AwayCards, s.AwaySquad)
	case 4:
		return validRuling(f.Ruling)
	case 5:
		return all("case", f.Appeal.Case) && between(f.Appeal.Instance, 1, 2)
	case 6:
		return all("player", f.Move.Player) && (all("club", f.Move.To) || f.Move.To == -1)
	case 7:
		return all("season", f.Lot.Season) && all("comp", f.Lot.Comp) && between(len(f.Lot.Order), 2, 24) &&
			all("club", f.Lot.Order...) && differ(f.Lot.Order)
	}
	return true
}

// written is the encoding of what is in a fact: structures and slices become lists, whatever is in them.
func written(v reflect.Value) string {
	switch v.Kind() {
	case reflect.Int:
		return fmt.Sprintf("i%de", v.Int())
	case reflect.Bool:
		if v.Bool() {
			return "i1e"
		}
		return "i0e"
	case reflect.String:
		return fmt.Sprintf("%d:%s", v.Len(), v.String())
	}
	return "l" + inner(v) + "e"
}

// inner has the encodings of the fields of a structure, or of the elements of a slice.
func inner(v reflect.Value) string {
	s := ""
	if v.Kind() == reflect.Struct {
		for i := range v.NumField() {
			s += written(v.Field(i))
		}
		return s
	}
	for i := range v.Len() {
		s += written(v.Index(i))
	}
	return s
}

// whatOf has the elements of `what`: the fields of the kind in the order of package api, which is that of the chapter,
// apart from the interval of a ruling, whose days are elements themselves.
func whatOf(f api.Fact) string {
	switch f.Kind {
	case 4:
		s := inner(reflect.ValueOf(f.Ruling))
		days := written(reflect.ValueOf(f.Ruling.Days))
		return strings.TrimSuffix(s, days) + inner(reflect.ValueOf(f.Ruling.Days))
	case 8:
		return "32:" + string(f.Void[:])
	}
	return inner(reflect.ValueOf(f).FieldByName(fieldOf[f.Kind]))
}

// encodingOf is the encoding of a fact; that of a fact that is not valid is empty.
func encodingOf(f api.Fact) string {
	if !valid(f) {
		return ""
	}
	return fmt.Sprintf("d3:dayi%de4:kindi%de5:knowni%de4:whatl%see", f.Day, f.Kind, f.Known, whatOf(f))
}

// idOf is the identifier of a valid fact.
func idOf(f api.Fact) api.Digest {
	tag := sha3.Sum256([]byte("fact"))
	return sha3.Sum256(append(tag[:], encodingOf(f)...))
}

func compareOf(a, b api.Fact) int {
	for _, p := range [][2]int{{a.Known, b.Known}, {a.Day, b.Day}, {a.Kind, b.Kind}} {
		if p[0] < p[1] {
			return -1
		}
		if p[0] > p[1] {
			return 1
		}
	}
	return cmp.Compare(bytes.Compare([]byte(encodingOf(a)), []byte(encodingOf(b))), 0)
}

// sameOf compares all fields.
func sameOf(a, b api.Fact) bool { return sameValues(reflect.ValueOf(a), reflect.ValueOf(b)) }

func sameValues(a, b reflect.Value) bool {
	switch a.Kind() {
	case reflect.Struct:
		for i := range a.NumField() {
			if !sameValues(a.Field(i), b.Field(i)) {
				return false
			}
		}
		return true
	case reflect.Slice:
		if a.Len() != b.Len() {
			return false
		}
		for i := range a.Len() {
			if !sameValues(a.Index(i), b.Index(i)) {
				return false
			}
		}
		return true
	}
	return a.Interface() == b.Interface()
}

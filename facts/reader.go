package facts

import (
	"assize/api"
	"assize/codec"
)

// reader reads one element of a list after the other. An element that is missing or of another type is read as zero.
type reader struct {
	rest []api.Value
}

// read returns the fact that a value describes; if the value describes none, any fact.
func read(v api.Value) (f api.Fact) {
	get := func(key string) api.Value {
		x, _ := codec.Get(v, key)
		return x
	}
	f.Day, f.Kind, f.Known = get("day").N, get("kind").N, get("known").N
	r := &reader{rest: get("what").L}
	if build, ok := builders(r)[f.Kind]; ok {
		build(&f)
	}
	return f
}

// builders returns the functions that read the field of a fact from r, by kind. The elements are read in the order in
// which the calls stand.
func builders(r *reader) map[int]func(f *api.Fact) {
	return map[int]func(f *api.Fact){
		api.EntrantsF: func(f *api.Fact) {
			f.Entrants = api.Entrants{Season: r.number(), Comp: r.number(), Clubs: r.numbers(), Rules: r.next().S}
		},
		api.FixtureF: func(f *api.Fact) { f.Fixture = api.Fixture{Game: r.game(), Venue: r.number()} },
		api.SheetF: func(f *api.Fact) {
			f.Sheet = api.Sheet{
				Game: r.game(), Referee: r.number(),
				HomeGoals: r.number(), AwayGoals: r.number(), HomePens: r.number(), AwayPens: r.number(),
				HomeSquad: r.numbers(), AwaySquad: r.numbers(), HomeCards: r.cards(), AwayCards: r.cards(),
			}
		},
		api.RulingF: func(f *api.Fact) {
			f.Ruling = api.Ruling{
				Case: r.number(), Instance: r.number(), Kind: r.number(), Game: r.game(),
				Club: r.number(), Player: r.number(), Season: r.number(), Comp: r.number(),
				Points: r.number(), Amount: r.number(), HomeGoals: r.number(), AwayGoals: r.number(),
				Days: api.Interval{From: r.number(), To: r.number()},
			}
		},
		api.AppealF: func(f *api.Fact) {
			f.Appeal = api.Appeal{Case: r.number(), Instance: r.number(), Suspends: r.truth()}
		},
		api.MoveF: func(f *api.Fact) { f.Move = api.Move{Player: r.number(), To: r.number()} },
		api.LotF:  func(f *api.Fact) { f.Lot = api.Lot{Season: r.number(), Comp: r.number(), Order: r.numbers()} },
		api.VoidF: func(f *api.Fact) { copy(f.Void[:], r.next().S) },
	}
}

func (r *reader) next() api.Value {
	if len(r.rest) == 0 {
		return api.Value{}
	}
	v := r.rest[0]
	r.rest = r.rest[1:]
	return v
}

func (r *reader) number() int { return r.next().N }

func (r *reader) truth() bool { return r.next().N == 1 }

// list returns a reader of the elements of the next element.
func (r *reader) list() *reader { return &reader{rest: r.next().L} }

func (r *reader) numbers() (l []int) {
	inner := r.list()
	for len(inner.rest) > 0 {
		l = append(l, inner.number())
	}
	return l
}

func (r *reader) game() api.Game {
	inner := r.list()
	return api.Game{Season: inner.number(), Comp: inner.number(), Home: inner.number(), Away: inner.number()}
}

func (r *reader) cards() (l []api.Card) {
	inner := r.list()
	for len(inner.rest) > 0 {
		card := inner.list()
		l = append(l, api.Card{Player: card.number(), Red: card.truth()})
	}
	return l
}

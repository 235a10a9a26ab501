package ledger

import (
	"bytes"
	"cmp"

	"assize/api"
	"assize/facts"
)

// key is what facts.Compare compares of a valid fact, and the index of the fact. Facts are sorted by their keys, because
// facts.Compare would encode each of them again and again.
type key struct {
	known, day, kind int
	encoding         []byte
	at               int
}

// keysOf returns the keys of facts, or the error of facts.Check for the first one for which there is one.
func keysOf(l []api.Fact) (keys []key, e api.Errno) {
	keys = make([]key, 0, len(l))
	for i, f := range l {
		b, e := facts.Encode(f)
		if e != api.OK {
			return nil, e
		}
		keys = append(keys, key{known: f.Known, day: f.Day, kind: f.Kind, encoding: b, at: i})
	}
	return keys, api.OK
}

// compare orders keys as facts.Compare orders their facts.
func (a key) compare(b key) int {
	return cmp.Or(
		cmp.Compare(a.known, b.known), cmp.Compare(a.day, b.day), cmp.Compare(a.kind, b.kind),
		bytes.Compare(a.encoding, b.encoding),
	)
}

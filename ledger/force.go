package ledger

import (
	"iter"

	"assize/api"
)

// inForce yields the facts of a ledger that are in force on a day, as known when all of the ledger was known.
func inForce(l []api.Fact, day int) iter.Seq[api.Fact] {
	return func(yield func(f api.Fact) bool) {
		voids := voided(l)
		for _, f := range l {
			if f.Kind == api.VoidF || f.Day > day || isVoided(f, voids) {
				continue
			}
			if !yield(f) {
				return
			}
		}
	}
}

// voided returns the identifiers that the VoidFs of a ledger name.
func voided(l []api.Fact) map[api.Digest]bool {
	voids := map[api.Digest]bool{}
	for _, f := range l {
		if f.Kind == api.VoidF {
			voids[f.Void] = true
		}
	}
	return voids
}

func isVoided(f api.Fact, voids map[api.Digest]bool) bool {
	// An identifier is a hash: most ledgers have few mistakes, and those without any need no identifiers.
	return len(voids) > 0 && voids[identifier(f)]
}

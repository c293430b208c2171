package grammar

import (
	"iter"

	"tstate/api"
)

// The least and the greatest number of states of a machine cycle.
const (
	shortest = api.T3
	longest  = api.T6
)

// maxSpan is the greatest number of states that a span has.
const maxSpan = 65536

// span is n states of the same kind, one after another.
type span struct{ state, n int }

// expansion yields the pins of items on a chip, one after another.
func expansion(chip int, l []api.Item) iter.Seq[api.Pins] {
	return func(yield func(api.Pins) bool) {
		for _, x := range l {
			for _, s := range spans(x) {
				p := pinsOf(chip, x, s.state)
				for range s.n {
					if !yield(p) {
						return
					}
				}
			}
		}
	}
}

// spans returns the states of an item, in order.
func spans(x api.Item) []span {
	switch x.Kind {
	case api.ItemCycle:
		return cycleSpans(x)
	case api.ItemHold:
		return []span{{api.THold, limited(x.N)}}
	case api.ItemHalt:
		return []span{{api.THalt, limited(x.N)}}
	case api.ItemReset:
		return []span{{api.TReset, limited(x.N)}}
	}
	return nil
}

// cycleSpans returns the states of a machine cycle, as far as they are present.
func cycleSpans(x api.Item) []span {
	states := min(max(x.Cycle.States, shortest), longest)
	n := min(max(x.N, 1), states)
	l := []span{{api.T1, 1}, {api.T2, 1}, {api.TWait, limited(x.Waits)}, {api.T3, 1}, {api.T4, 1}, {api.T5, 1}, {api.T6, 1}}
	if n < api.T2 {
		return l[:n]
	}
	return l[:n+1] // with the wait states
}

// limited returns the number of states for which a number of an item counts.
func limited(n int) int { return min(max(n, 0), maxSpan) }

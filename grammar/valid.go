package grammar

import (
	"tstate/api"
	"tstate/core"
)

// possible reports whether an item can be the last one of a run.
func possible(x api.Item) bool {
	switch x.Kind {
	case api.ItemCycle:
		return x.Cycle.States >= shortest && x.Cycle.States <= longest && x.N >= 1 && x.N <= x.Cycle.States && possibleWaits(x)
	case api.ItemHold, api.ItemHalt, api.ItemReset:
		return x.N >= 1 && x.Waits == 0
	}
	return false
}

// possibleWaits reports whether a machine cycle can have as many wait states as it has. They come after T2.
func possibleWaits(x api.Item) bool {
	return x.Waits == 0 || x.Waits > 0 && x.N >= api.T2 && core.Accepts(x.Cycle.Kind)
}

// follows reports whether the item x can come directly after the item before, if both are possible: only RESET cuts off a
// machine cycle, and states that belong together are one item.
func follows(before, x api.Item) bool {
	if before.Kind == api.ItemCycle {
		return before.N == before.Cycle.States || x.Kind == api.ItemReset
	}
	return before.Kind != x.Kind || before.Inte != x.Inte || before.Sod != x.Sod
}

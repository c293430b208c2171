package grammar_test

import (
	"math"
	"slices"
	"testing"

	"tstate/api"
	"tstate/grammar"
)

// checkValid compares Valid with what is expected, on all chips.
func checkValid(t *testing.T, want bool, l ...api.Item) {
	t.Helper()
	for _, chip := range chips {
		if got := grammar.Valid(chip, l); got != want {
			t.Fatalf("Valid(%d, %+v) = %t", chip, l, got)
		}
	}
}

// sound is a model of Valid: the sentences of P26.3, one after another.
func sound(l []api.Item) bool {
	for i, x := range l {
		last, cut := i == len(l)-1, i < len(l)-1 && l[i+1].Kind == 4
		if x.Kind < 1 || x.Kind > 4 {
			return false
		}
		if x.Kind != 1 && (x.N < 1 || x.Waits != 0) {
			return false
		}
		if x.Kind == 1 && (x.Cycle.States < 3 || x.Cycle.States > 6 || x.N < 1 || x.N > x.Cycle.States) {
			return false
		}
		if x.Kind == 1 && !last && !cut && x.N != x.Cycle.States {
			return false
		}
		if x.Kind == 1 && (x.Waits < 0 || x.Waits > 0 && x.N < 2) {
			return false
		}
		if k := x.Cycle.Kind; x.Kind == 1 && x.Waits != 0 && (k == 10 || k == 11 || k == 12) {
			return false
		}
		if x.Kind != 1 && !last && l[i+1].Kind == x.Kind && l[i+1].Inte == x.Inte && l[i+1].Sod == x.Sod {
			return false
		}
	}
	return true
}

// P26.3: one machine cycle, with all numbers of states, and with wait states of all kinds.
func TestValidOfOneCycle(t *testing.T) {
	numbers := append(slices.Clone(odd), huge...)
	for _, states := range numbers {
		for _, n := range numbers {
			for _, waits := range numbers {
				possible := states >= 3 && states <= 6 && n >= 1 && n <= states
				checkValid(t, possible && (waits == 0 || waits > 0 && n >= 2), cycle(api.CycRead, states, n, waits))
				checkValid(t, possible && waits == 0, cycle(api.CycIdle, states, n, waits))
			}
		}
	}
	for _, kind := range cycleKinds {
		ignores := kind == api.CycHalt || kind == api.CycIdle || kind == api.CycRst
		checkValid(t, true, cycle(kind, 3, 3, 0))
		checkValid(t, true, cycle(kind, 6, 1, 0))
		checkValid(t, !ignores, cycle(kind, 3, 3, 1))
		checkValid(t, !ignores, cycle(kind, 4, 2, math.MaxInt))
		checkValid(t, false, cycle(kind, 3, 3, -1))
	}
}

// P26.3: one item of another kind. Its cycle does not matter, and IE and SOD may be set on both chips.
func TestValidOfOneItem(t *testing.T) {
	numbers := append(slices.Clone(odd), huge...)
	for _, kind := range itemKinds {
		named := kind >= 2 && kind <= 4
		for _, n := range numbers {
			for _, waits := range numbers {
				x := cycle(api.CycIdle, -1, n, waits)
				if x.Kind = kind; kind != api.ItemCycle {
					checkValid(t, named && n >= 1 && waits == 0, lit(x, n&1 == 1, n&2 == 2))
				}
			}
		}
	}
}

// P26.3: neighbours, spelled out.
func TestValidOfNeighbours(t *testing.T) {
	full, cut, begun := cycle(api.CycFetch, 4, 4, 1), cycle(api.CycFetch, 4, 3, 1), cycle(api.CycRst, 6, 1, 0)
	hold, halt, reset := other(api.ItemHold, 2), other(api.ItemHalt, 1), other(api.ItemReset, 3)
	moved := halt
	moved.Cycle.At, moved.N = 0x1234, 7
	for _, x := range []struct {
		want bool
		l    []api.Item
	}{
		{true, nil},
		{true, []api.Item{}},
		{true, []api.Item{full, full, full}},
		{true, []api.Item{full, cut}}, {true, []api.Item{full, begun}}, {true, []api.Item{hold, cut}},
		{false, []api.Item{cut, full}}, {false, []api.Item{begun, full}}, {false, []api.Item{cut, cut}}, {false, []api.Item{full, cut, full}},
		{true, []api.Item{cut, reset}}, {true, []api.Item{begun, reset}}, {true, []api.Item{full, reset}}, {true, []api.Item{cut, reset, cut, reset, cut}},
		{false, []api.Item{cut, hold}}, {false, []api.Item{cut, halt}}, {false, []api.Item{cut, hold, reset}}, {false, []api.Item{cut, full, reset}},
		{true, []api.Item{full, hold, full}}, {true, []api.Item{full, halt, full}}, {true, []api.Item{hold, halt, reset, hold}}, {true, []api.Item{reset, halt, hold}},
		{false, []api.Item{hold, hold}}, {false, []api.Item{halt, halt}}, {false, []api.Item{reset, reset}}, {false, []api.Item{full, hold, hold, full}},
		{false, []api.Item{lit(hold, true, false), lit(hold, true, false)}}, {false, []api.Item{lit(reset, true, true), lit(reset, true, true)}},
		{true, []api.Item{lit(hold, true, false), hold}}, {true, []api.Item{halt, lit(halt, true, false)}}, {true, []api.Item{reset, lit(reset, true, false), reset}},
		{true, []api.Item{lit(hold, false, true), hold}}, {true, []api.Item{halt, lit(halt, false, true)}}, {true, []api.Item{lit(reset, false, true), reset}},
		{true, []api.Item{lit(hold, false, true), lit(hold, true, false), lit(hold, true, true)}},
		{true, []api.Item{hold, halt, hold, halt}}, {true, []api.Item{reset, full, reset}},
		{false, []api.Item{halt, moved}}, {false, []api.Item{moved, halt}},
		{false, []api.Item{full, {Kind: 5, N: 1}, full}}, {false, []api.Item{cut, {Kind: 0, N: 1}}}, {false, []api.Item{{Kind: 256 + 4, N: 1}, full}}, {false, []api.Item{cut, {Kind: 256 + 4, N: 1}}},
		{false, []api.Item{cut, other(api.ItemReset, 0)}}, {false, []api.Item{full, other(api.ItemHold, 0), full}}, {false, []api.Item{other(api.ItemHalt, -1), full}},
		{false, []api.Item{full, full, cycle(api.CycFetch, 4, 4, -1)}}, {false, []api.Item{cycle(api.CycFetch, 7, 7, 0), full}}, {false, []api.Item{cycle(api.CycFetch, 4, 1, 1), reset}},
		{false, []api.Item{{Kind: api.ItemHold, N: 1, Waits: 1}, full}},
	} {
		checkValid(t, x.want, x.l...)
	}
}

// P26.3 and R1: valid lists, and what remains of them when items are changed, doubled, dropped or cut off, compared with
// the model.
func TestValidOfLists(t *testing.T) {
	m := newMaker()
	count := map[bool]int{}
	for n := range 40000 {
		l := m.valid(n % 9)
		checkValid(t, true, l...)
		if len(l) == 0 {
			continue
		}
		i := m.IntN(len(l))
		switch m.IntN(8) {
		case 0:
			l[i] = m.item()
		case 1:
			l[i].Kind = m.one(itemKinds)
		case 2:
			l[i].N = m.one(odd)
		case 3:
			l[i].Waits = m.one(odd)
		case 4:
			l[i].Cycle.States = m.one(odd)
		case 5:
			l[i].Cycle.Kind = m.one(cycleKinds)
		case 6:
			l = slices.Insert(l, i, l[i])
		case 7:
			l = slices.Delete(l, i, i+1)
		}
		count[sound(l)]++
		if got := grammar.Valid(m.one(chips), l); got != sound(l) {
			t.Fatalf("Valid(%+v) = %t", l, got)
		}
	}
	if count[true] < 5000 || count[false] < 5000 {
		t.Errorf("%v lists are valid", count)
	}
	for range 20000 {
		if l := m.items(3); grammar.Valid(m.one(chips), l) != sound(l) {
			t.Fatalf("Valid(%+v) = %t", l, !sound(l))
		}
	}
}

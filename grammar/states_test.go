package grammar_test

import (
	"math"
	"testing"

	"tstate/api"
	"tstate/grammar"
)

// sums are the five numbers of States.
type sums [5]int

func sumsOf(l []api.Item) sums {
	cycles, waits, holds, halts, resets := grammar.States(l)
	return sums{cycles, waits, holds, halts, resets}
}

// total returns the sum of all five numbers.
func (s sums) total() int { return s[0] + s[1] + s[2] + s[3] + s[4] }

// summed is a model of States, with a place for each of its numbers.
func summed(l []api.Item) (out sums) {
	for _, x := range l {
		add := func(place, n int) {
			if n > 0 {
				out[place] = int(uint(out[place]) + uint(n))
			}
		}
		switch x.Kind {
		case 1:
			add(0, x.N)
			add(1, x.Waits)
		case 2, 3, 4:
			add(x.Kind, x.N)
		}
	}
	return out
}

// P26.2: sums, spelled out. No number is limited, and negative ones count as 0.
func TestStates(t *testing.T) {
	for i, x := range []struct {
		l    []api.Item
		want sums
	}{
		{nil, sums{}},
		{[]api.Item{}, sums{}},
		{[]api.Item{cycle(api.CycFetch, 4, 4, 1)}, sums{4, 1, 0, 0, 0}},
		{[]api.Item{cycle(api.CycFetch, 4, 4, 1), cycle(api.CycRead, 3, 2, 5)}, sums{6, 6, 0, 0, 0}},
		{[]api.Item{cycle(api.CycFetch, 4, 9, 0)}, sums{9, 0, 0, 0, 0}},
		{[]api.Item{cycle(api.CycFetch, 99, 0, 0)}, sums{}},
		{[]api.Item{cycle(api.CycFetch, 4, 1, 7)}, sums{1, 7, 0, 0, 0}},
		{[]api.Item{cycle(api.CycFetch, 4, -9, 7)}, sums{0, 7, 0, 0, 0}},
		{[]api.Item{cycle(api.CycFetch, 4, 4, -7)}, sums{4, 0, 0, 0, 0}},
		{[]api.Item{cycle(api.CycFetch, 4, 65537, 65538)}, sums{65537, 65538, 0, 0, 0}},
		{[]api.Item{other(api.ItemHold, 5), other(api.ItemHalt, 6), other(api.ItemReset, 7)}, sums{0, 0, 5, 6, 7}},
		{[]api.Item{other(api.ItemHold, 5), other(api.ItemHold, 6), other(api.ItemHold, -4)}, sums{0, 0, 11, 0, 0}},
		{[]api.Item{other(api.ItemHold, -5), other(api.ItemHalt, -6), other(api.ItemReset, math.MinInt)}, sums{}},
		{[]api.Item{other(api.ItemHold, 65537), other(api.ItemHalt, 1<<40), other(api.ItemReset, math.MaxInt)}, sums{0, 0, 65537, 1 << 40, math.MaxInt}},
		{[]api.Item{{Kind: api.ItemHold, N: 1, Waits: 9}, {Kind: api.ItemHalt, N: 1, Waits: 9}, {Kind: api.ItemReset, N: 1, Waits: 9}}, sums{0, 0, 1, 1, 1}},
		{[]api.Item{{Kind: 0, N: 3, Waits: 9}, {Kind: 5, N: 3, Waits: 9}, {Kind: -1, N: 3, Waits: 9}}, sums{}},
		{[]api.Item{cycle(1, 4, math.MaxInt, math.MaxInt), cycle(1, 4, 1, 2)}, sums{math.MinInt, math.MinInt + 1, 0, 0, 0}},
		{[]api.Item{other(api.ItemHold, math.MaxInt), other(api.ItemHold, math.MaxInt), other(api.ItemHold, 3)}, sums{0, 0, 1, 0, 0}},
		{[]api.Item{other(api.ItemHalt, math.MaxInt), other(api.ItemHalt, 1), other(api.ItemReset, math.MaxInt), other(api.ItemReset, 2)}, sums{0, 0, 0, math.MinInt, math.MinInt + 1}},
	} {
		if got := sumsOf(x.l); got != x.want {
			t.Errorf("%d: States(%+v) = %v, want %v", i, x.l, got, x.want)
		}
	}
}

// P26.2, R1 and R7: any lists of items, compared with the model, also with sums that wrap around.
func TestStatesOfLists(t *testing.T) {
	m := newMaker()
	for range 20000 {
		l := m.items(12)
		for i := range l {
			if m.rarely(4) {
				l[i].N, l[i].Waits = m.one(huge), m.one(huge)
			}
		}
		if got, want := sumsOf(l), summed(l); got != want {
			t.Fatalf("States(%+v) = %v, want %v", l, got, want)
		}
	}
}

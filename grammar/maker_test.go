package grammar_test

import (
	"math"
	"math/rand/v2"
	"slices"

	"tstate/api"
)

// chips are the two chips, and numbers of other chips, which count as the 8080.
var chips = []int{api.Chip8080, api.Chip8085, 0, 3, -1, api.Chip8085 + 256, math.MaxInt, math.MinInt}

var both = []int{api.Chip8080, api.Chip8085}

// itemKinds are the kinds of items, and numbers that are no kinds.
var itemKinds = []int{api.ItemCycle, api.ItemHold, api.ItemHalt, api.ItemReset, 0, 5, -1, 256 + 1, 1<<32 + 2, math.MaxInt, math.MinInt}

// cycleKinds are all kinds of machine cycles, and numbers that are no kinds.
var cycleKinds = []int{
	api.CycFetch, api.CycRead, api.CycWrite, api.CycPop, api.CycPush, api.CycIn, api.CycOut, api.CycAck, api.CycMore,
	api.CycHalt, api.CycIdle, api.CycRst, 0, 13, -1, 256 + 6, 256 + 7, 1<<32 + 1, math.MaxInt, math.MinInt,
}

// odd are numbers of which some are out of every range.
var odd = []int{0, 1, 2, 3, 4, 5, 6, 7, 8, 9, -1, -2, -9, 256 + 3, -65536, math.MinInt + 4, math.MinInt}

// huge are numbers of states for which only some count.
var huge = []int{65535, 65536, 65537, 65536 * 2, 1 << 32, 1<<32 + 3, math.MaxInt - 1, math.MaxInt}

// maker makes arguments from a sequence of numbers that is always the same.
type maker struct{ *rand.Rand }

func newMaker() maker { return maker{rand.New(rand.NewPCG(26, 4))} }

func (m maker) bool() bool { return m.IntN(2) == 1 }

func (m maker) rarely(n int) bool { return m.IntN(n) == 0 }

func (m maker) one(list []int) int { return list[m.IntN(len(list))] }

func (m maker) byte() byte { return byte(m.IntN(256)) }

func (m maker) word() uint16 { return uint16(m.IntN(65536)) }

// item returns any item, possible or not, with few states.
func (m maker) item() api.Item {
	x := api.Item{
		Kind: m.one(itemKinds), Waits: m.one(odd), N: m.one(odd), Inte: m.bool(), Sod: m.bool(),
		Cycle: api.Cycle{Kind: m.one(cycleKinds), At: m.word(), Data: m.byte(), States: m.one(odd)},
	}
	if m.bool() {
		x.Kind = api.ItemCycle
	}
	return x
}

// items returns any list of at most n items.
func (m maker) items(n int) (l []api.Item) {
	for range m.IntN(n + 1) {
		l = append(l, m.item())
	}
	return l
}

// valid returns a list of n items that is valid.
func (m maker) valid(n int) (l []api.Item) {
	for len(l) < n {
		x := api.Item{
			Kind: m.one([]int{1, 1, 1, 1, 2, 3, 4}), N: 1 + m.IntN(5), Inte: m.bool(), Sod: m.bool(),
			Cycle: api.Cycle{Kind: m.one(cycleKinds), At: m.word(), Data: m.byte(), States: 3 + m.IntN(4)},
		}
		if x.Kind == api.ItemCycle {
			x.N = x.Cycle.States
			if !slices.Contains([]int{api.CycHalt, api.CycIdle, api.CycRst}, x.Cycle.Kind) {
				x.Waits = m.IntN(4)
			}
		}
		if k := len(l) - 1; k >= 0 && l[k].Kind == api.ItemCycle && x.Kind == api.ItemReset {
			l[k] = m.cut(l[k])
		}
		if k := len(l) - 1; k >= 0 && x.Kind != api.ItemCycle && l[k].Kind == x.Kind {
			x.Inte = !l[k].Inte
		}
		l = append(l, x)
	}
	if n > 0 && l[n-1].Kind == api.ItemCycle {
		l[n-1] = m.cut(l[n-1])
	}
	return l
}

// cut returns a machine cycle of which only some states may be present.
func (m maker) cut(x api.Item) api.Item {
	if x.N = 1 + m.IntN(x.Cycle.States); x.N < 2 {
		x.Waits = 0
	}
	return x
}

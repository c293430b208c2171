package core_test

import (
	"bytes"
	"math"
	"math/rand/v2"
	"slices"
	"testing"

	"tstate/api"
	"tstate/core"
	"tstate/irq"
	"tstate/micro"
)

// others are numbers that are not api.Chip8085, so that they count as the 8080.
var others = []int{api.Chip8080, 0, 3, -1, -2, api.Chip8085 + 256, math.MaxInt, math.MinInt, math.MinInt + api.Chip8085}

var chips = append([]int{api.Chip8085}, others...)

var both = []int{api.Chip8080, api.Chip8085}

// restarts are the sources of the internal restarts.
var restarts = []int{api.FromTrap, api.From75, api.From65, api.From55}

// sources are those of all kinds, and numbers that are no sources.
var sources = append([]int{api.FromNone, api.FromIntr, 6, -1, -5, 257, 1<<32 + 1, 1<<32 + 5, math.MaxInt, math.MinInt}, restarts...)

// kinds are all kinds of machine cycles, and numbers that are no kinds.
var kinds = []int{
	api.CycFetch, api.CycRead, api.CycWrite, api.CycPop, api.CycPush, api.CycIn, api.CycOut, api.CycAck, api.CycMore,
	api.CycHalt, api.CycIdle, api.CycRst, 0, 13, 14, -1, -11, 256 + 10, 256 + 11, 1<<32 + 12, math.MaxInt, math.MinInt,
}

// states are all values of Next that name a state, and numbers that do not, which count as T1.
var states = []int{
	api.T1, api.T2, api.T3, api.T4, api.T5, api.T6, api.TWait, api.THold, api.THalt,
	0, api.TReset, 11, -1, -3, 256 + 3, 1<<32 + 9, math.MaxInt, math.MinInt,
}

// stateOf returns the state that a value of Next names.
func stateOf(next int) int {
	if next < 1 || next > 9 {
		return 1
	}
	return next
}

// same reports whether two cores are equal.
func same(a, b api.Core) bool {
	return a.CPU == b.CPU && a.Source == b.Source && bytes.Equal(a.Got, b.Got) && a.Cycle == b.Cycle && a.Next == b.Next && a.Hold == b.Hold
}

// clocked is a model of the core after a clock state: the sentences of P20.2, one after another.
func clocked(c api.Core, l api.Lines, data byte) api.Core {
	if l.Reset {
		return api.Core{CPU: irq.Reset(c.CPU), Cycle: api.Cycle{Kind: 1, States: 4}, Next: 1}
	}
	p := irq.Latch(c.CPU, l)
	n := api.Core{CPU: p, Source: c.Source, Got: slices.Clone(c.Got), Cycle: c.Cycle, Hold: c.Hold}
	ends := false
	switch state := stateOf(c.Next); state {
	case 1:
		n.Next = 2
	case 2, 7:
		respects := c.Cycle.Kind != 10 && c.Cycle.Kind != 11 && c.Cycle.Kind != 12
		if respects && !l.Ready {
			n.Next = 7
		} else {
			n.Next, n.Hold = 3, l.Hold
		}
	case 3:
		switch c.Cycle.Kind {
		case 1, 8:
			n.Cycle.Data, n.Cycle.States = data, micro.First(c.CPU.Chip, data)
		case 2, 4, 6, 9:
			n.Cycle.Data = data
		}
		n.Got = append(n.Got, n.Cycle.Data)
		n.Next, ends = 4, n.Cycle.States <= 3
	case 4, 5:
		n.Next, ends = state+1, n.Cycle.States <= state
	case 6:
		ends = true
	case 8:
		n.Next = waiting(l.Hold, p.Halted && c.Source == 0)
	case 9:
		n.Next = waiting(l.Hold, true)
		if s := irq.Pick(p, l); s != 0 {
			serve(&n, s)
			n.Next = waiting(l.Hold, false)
		}
	}
	if ends {
		endCycle(&n, p, l)
	}
	return n
}

// endCycle is the part of the model for the end of a machine cycle.
func endCycle(n *api.Core, p api.CPU, l api.Lines) {
	cycle, more := micro.Next(p, n.Source, n.Got)
	n.Cycle = cycle
	if !more {
		n.CPU = micro.Finish(p, n.Source, n.Got, l)
		n.Got, n.Source = nil, 0
		n.Cycle = api.Cycle{Kind: 1, At: n.CPU.Regs.PC, States: 4}
		if s := irq.Pick(n.CPU, l); s != 0 {
			serve(n, s)
		}
	}
	n.Next = waiting(n.Hold, n.CPU.Halted && n.Source == 0)
	n.Hold = false
}

// serve is the part of the model for the service of a source.
func serve(n *api.Core, s int) {
	n.CPU, n.Source, n.Got = irq.Accept(n.CPU, s), s, nil
	n.Cycle = api.Cycle{Kind: 12, At: n.CPU.Regs.PC, States: 6}
	if s == 5 {
		n.Cycle.Kind, n.Cycle.States = 8, 4
	}
}

// waiting returns the state that follows between two machine cycles.
func waiting(hold, halted bool) int {
	if hold {
		return 8
	}
	if halted {
		return 9
	}
	return 1
}

// checkClock compares the core and the pins of one clock state with those of the models, and returns the core.
func checkClock(t *testing.T, c api.Core, l api.Lines, data byte) api.Core {
	t.Helper()
	got, pins := core.Clock(c, l, data)
	if want := clocked(c, l, data); !same(got, want) {
		t.Fatalf("Clock(%+v, %+v, %#02x) gives the core\n%+v, want\n%+v", c, l, data, got, want)
	}
	if want := pinned(c, l, data); pins != want {
		t.Fatalf("Clock(%+v, %+v, %#02x) gives the pins\n%+v, want\n%+v", c, l, data, pins, want)
	}
	return got
}

// maker makes arguments from a sequence of numbers that is always the same.
type maker struct{ *rand.Rand }

func newMaker() maker { return maker{rand.New(rand.NewPCG(20, 4))} }

func (m maker) bool() bool { return m.IntN(2) == 1 }

func (m maker) one(list []int) int { return list[m.IntN(len(list))] }

func (m maker) byte() byte { return byte(m.IntN(256)) }

func (m maker) word() uint16 {
	if m.IntN(4) == 0 {
		return uint16(m.IntN(5) - 3)
	}
	return uint16(m.IntN(65536))
}

func (m maker) bytes(n int) (l []byte) {
	for range n {
		l = append(l, m.byte())
	}
	return l
}

func (m maker) cpu(chip int) api.CPU {
	return api.CPU{
		Chip: chip,
		Regs: api.Regs{
			A: m.byte(), B: m.byte(), C: m.byte(), D: m.byte(), E: m.byte(), H: m.byte(), L: m.byte(),
			F:  api.Flags{S: m.bool(), Z: m.bool(), K: m.bool(), AC: m.bool(), P: m.bool(), V: m.bool(), CY: m.bool()},
			SP: m.word(), PC: m.word(),
		},
		IE: m.bool(), Delay: m.bool(), Halted: m.bool(), Mask: m.byte(), Trap: m.IntN(4) == 0, R75: m.bool(),
		WasTrap: m.bool(), Was75: m.bool(), Saved: m.bool(), SavedIE: m.bool(), SOD: m.bool(),
	}
}

// lines returns any levels but RESET, which would hide all others.
func (m maker) lines() api.Lines {
	return api.Lines{
		Ready: m.bool(), Hold: m.bool(), Sid: m.bool(),
		Trap: m.IntN(4) == 0, R75: m.bool(), R65: m.bool(), R55: m.bool(), Intr: m.bool(),
	}
}

// core returns any core, also one that no run leads to.
func (m maker) core(chip int) api.Core {
	lengths := []int{3, 4, 5, 6, 7, 2, 0, -1, math.MaxInt, math.MinInt}
	return api.Core{
		CPU: m.cpu(chip), Source: m.one(sources), Got: m.bytes(m.IntN(8)),
		Cycle: api.Cycle{Kind: m.one(kinds), At: m.word(), Data: m.byte(), States: m.one(lengths)},
		Next:  m.one(states), Hold: m.bool(),
	}
}

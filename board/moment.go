package board

import (
	"slices"

	"tstate/api"
	"tstate/irq"
	"tstate/micro"
)

// moment is what happens in one clock state: the core before and after it, the levels that it has, its pins, and the cell
// that the DMA master writes, if it writes one.
type moment struct {
	before, after api.Core
	lines         api.Lines
	pins          api.Pins
	cell          api.Cell
	moved         bool
}

// itemKind returns the kind of the items to which a state belongs.
func itemKind(state int) int {
	switch state {
	case api.THold:
		return api.ItemHold
	case api.THalt:
		return api.ItemHalt
	case api.TReset:
		return api.ItemReset
	}
	return api.ItemCycle
}

// item returns the item that consists of the state alone.
func (x moment) item() api.Item {
	c := x.before.CPU
	item := api.Item{Kind: itemKind(x.pins.State), N: 1, Inte: c.IE, Sod: c.SOD}
	switch item.Kind {
	case api.ItemCycle:
		item.Cycle = x.cycle()
	case api.ItemHalt:
		item.Cycle.At = c.Regs.PC
	}
	return item
}

// cycle returns the machine cycle of the state, with what T3 gives it.
func (x moment) cycle() api.Cycle {
	cycle := x.before.Cycle
	switch {
	case x.pins.State != api.T3:
		return cycle
	case x.after.Next == api.T4:
		return x.after.Cycle
	}
	// The core has already gone on to the next cycle, but the pins still show the byte, or 0 for a cycle without data.
	cycle.Data = x.pins.Data
	return cycle
}

// bytes returns the bytes of the machine cycles of the instruction whose T3 is over.
func (x moment) bytes() []byte {
	got := slices.Clone(x.before.Got)
	if x.pins.State == api.T3 {
		got = append(got, x.cycle().Data)
	}
	return got
}

// ends reports whether the state is the last one of an instruction.
func (x moment) ends() bool {
	return x.pins.State >= api.T3 && x.pins.State <= api.T6 && len(x.after.Got) == 0
}

// event returns an event of a kind with the levels of the state and the latches of a CPU.
func (x moment) event(kind int, c api.CPU) api.Event {
	return api.Event{Kind: kind, Lines: x.lines, R75: c.R75, Trap: c.Trap, Was75: c.Was75, WasTrap: c.WasTrap}
}

// cut returns the event of an instruction that RESET cuts off in the state.
func (x moment) cut() api.Event {
	e := x.event(api.EvCut, x.before.CPU)
	e.Source, e.Bytes = x.before.Source, x.bytes()
	return e
}

// instruction returns the event of an instruction that ends with the state, and the CPU state after it, before the next
// interrupt is accepted.
func (x moment) instruction() (api.Event, api.CPU) {
	latched := irq.Latch(x.before.CPU, x.lines)
	e := x.event(eventKind(x.before.Source), latched)
	e.Source, e.Bytes = x.before.Source, x.bytes()
	return e, micro.Finish(latched, e.Source, e.Bytes, x.lines)
}

// eventKind returns the kind of the event of an instruction with a source.
func eventKind(source int) int {
	switch source {
	case api.FromNone:
		return api.EvInstr
	case api.FromIntr:
		return api.EvInject
	}
	return api.EvInternal
}

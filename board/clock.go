package board

import (
	"tstate/api"
	"tstate/core"
	"tstate/dma"
	"tstate/pic"
	"tstate/regions"
	"tstate/status"
)

// clocked returns the system after one clock state with an input, and what happens in it. To save copies, the memory of
// the new system may be that of s, and its outputs may take the spare capacity of those of s.
func clocked(b api.Board, s api.System, in api.Input) (api.System, moment) {
	if !b.Jam {
		s.PIC = pic.Raise(s.PIC, in.Requests)
	}
	s.Waited = waited(s)
	x := moment{before: s.Core, lines: levels(b, s, in)}
	cycle, accesses := s.Core.Cycle, s.Core.Next == api.T3 && !in.Reset
	var data byte
	if accesses && status.Reads(cycle.Kind) {
		s, data = read(b, s, in.Port)
	}
	s.Core, x.pins = core.Clock(s.Core, x.lines, data)
	if accesses && status.Writes(cycle.Kind) {
		s = written(b, s, cycle)
	}
	if x.pins.Hlda && dma.Request(s.DMA) {
		s.DMA, x.cell, x.moved = dma.Transfer(s.DMA)
		s.Memory = regions.Write(b.Regions, s.Memory, x.cell.At, x.cell.Val)
	}
	if in.Reset {
		s.DMA.Left, s.PIC.Step = 0, 0
	}
	x.after = s.Core
	return s, x
}

// waited returns the number of wait states of the current cycle, with the state that begins.
func waited(s api.System) int {
	if s.Core.Next != api.TWait {
		return 0
	}
	return s.Waited + 1
}

// levels returns the levels of the inputs of the core. The controller and the wait states of s are already those of the
// state that begins.
func levels(b api.Board, s api.System, in api.Input) api.Lines {
	return api.Lines{
		Ready: in.Ready && s.Waited >= needed(b, s.Core.Cycle),
		Hold:  in.Hold || dma.Request(s.DMA),
		Reset: in.Reset,
		Sid:   in.Sid,
		Trap:  in.Trap,
		R75:   in.R75,
		R65:   in.R65,
		R55:   in.R55,
		Intr:  interrupts(b, s, in),
	}
}

// needed returns the number of wait states that a machine cycle needs at least.
func needed(b api.Board, cycle api.Cycle) int {
	switch {
	case accessesMemory(cycle.Kind):
		return regions.Waits(b.Regions, cycle.At)
	case cycle.Kind == api.CycIn || cycle.Kind == api.CycOut:
		return min(max(b.IOWaits, 0), api.MaxWaits)
	}
	return 0
}

// accessesMemory reports whether the cycles of a kind access the memory.
func accessesMemory(kind int) bool {
	switch kind {
	case api.CycFetch, api.CycRead, api.CycWrite, api.CycPop, api.CycPush:
		return true
	}
	return false
}

// interrupts returns the level of the interrupt request line of the processor.
func interrupts(b api.Board, s api.System, in api.Input) bool {
	if b.Jam {
		return in.Requests&1 == 1
	}
	return pic.Int(s.PIC)
}

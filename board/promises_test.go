package board_test

import (
	"bytes"
	"slices"
	"testing"

	"tstate/api"
	"tstate/core"
	"tstate/irq"
	"tstate/isa"
	"tstate/memory"
	"tstate/micro"
	"tstate/script"
)

// expanded returns the trace of items. The pins of a state follow from its cycle and the levels of IE, SOD and PC alone.
func expanded(chip int, l []api.Item) (trace []api.Pins) {
	for _, x := range l {
		add := func(state, n int) {
			c := api.Core{CPU: api.CPU{Chip: chip, IE: x.Inte, SOD: x.Sod}, Cycle: x.Cycle, Next: state}
			c.CPU.Regs.PC = x.Cycle.At
			for range n {
				_, pins := core.Clock(c, api.Lines{Reset: state == api.TReset}, x.Cycle.Data)
				trace = append(trace, pins)
			}
		}
		switch x.Kind {
		case api.ItemCycle:
			for state := range x.N {
				add(state+1, 1)
				if state+1 == api.T2 {
					add(api.TWait, x.Waits)
				}
			}
		case api.ItemHold:
			add(api.THold, x.N)
		case api.ItemHalt:
			add(api.THalt, x.N)
		case api.ItemReset:
			add(api.TReset, x.N)
		}
	}
	return trace
}

// followed returns the CPU state after an event.
func followed(c api.CPU, e api.Event) api.CPU {
	switch e.Kind {
	case api.EvInstr, api.EvInject, api.EvInternal:
		c = irq.Accept(c, e.Source)
		c.R75, c.Trap, c.Was75, c.WasTrap = e.R75, e.Trap, e.Was75, e.WasTrap
		return micro.Finish(c, e.Source, e.Bytes, e.Lines)
	case api.EvReset:
		return irq.Reset(c)
	}
	return c
}

// P25.4: the trace is the expansion of the items, which are complete but for the last one and those before RESET.
func TestTraceIsTheExpansionOfItsItems(t *testing.T) {
	m := newMaker()
	for n := range 200 {
		b := m.playable(both[n%2])
		_, s := m.play(m.IntN(1500))
		r := run(t, b, s)
		if d := difference("pins", expanded(b.Chip, r.Items), r.Trace, equal[api.Pins]); d != nil {
			t.Fatalf("%+v", d)
		}
		for i, x := range r.Items {
			last := i+1 == len(r.Items) || r.Items[i+1].Kind == api.ItemReset
			if x.N < 1 || x.Kind == api.ItemCycle && (x.N > x.Cycle.States || x.N < x.Cycle.States && !last) {
				t.Fatalf("the item %+v is not complete", x)
			}
		}
	}
}

// P25.4: the events lead from one CPU state to the next one, and their bytes are those of the cycles, in order.
func TestEventsLeadToTheStates(t *testing.T) {
	m := newMaker()
	for n := range 200 {
		b := m.playable(both[n%2])
		_, s := m.play(m.IntN(1500))
		r := run(t, b, s)
		c := irq.Reset(api.CPU{Chip: b.Chip})
		var ofEvents, ofItems []byte
		for i, e := range r.Events {
			if c = followed(c, e); c != r.CPUs[i] {
				t.Fatalf("the event %+v leads to %+v, want %+v", e, r.CPUs[i], c)
			}
			ofEvents = append(ofEvents, e.Bytes...)
		}
		for _, x := range r.Items {
			if x.Kind == api.ItemCycle && x.N >= api.T3 {
				ofItems = append(ofItems, x.Cycle.Data)
			}
		}
		if !bytes.Equal(ofEvents, ofItems) {
			t.Fatalf("the events have the bytes % x, and the items % x", ofEvents, ofItems)
		}
	}
}

// P25.4: the same board and script have the same run, whatever runs before and whatever the spare capacity is.
func TestRunDependsOnItsArguments(t *testing.T) {
	m := newMaker()
	for range 40 {
		b := m.playable(m.one(both))
		_, s := m.play(600)
		first := run(t, b, s)
		run(t, m.playable(m.one(both)), entries(idle(300), 0))
		again, _ := clones(b, api.System{})
		checkRecord(t, run(t, again, slices.Clip(slices.Clone(s))), first)
	}
}

// P25.3: without interrupts, RESET and DMA bytes, the instructions of a run do what the interpreter does, with the same
// memory and outputs. Wait states and hold states change nothing of it.
func TestRunIsThatOfTheInterpreter(t *testing.T) {
	m := newMaker()
	compared := 0
	for n := range 200 {
		chip := both[n%2]
		b := ram(chip)
		b.Jam, b.DmaPort = true, 0xFC
		b.Image = memory.Load(0, m.program(b, 300))
		var l []api.Input
		for range 2500 {
			l = append(l, api.Input{Ready: n < 100 || !m.rarely(3), Hold: n >= 100 && m.rarely(9), Requests: m.byte() &^ 1})
		}
		r := run(t, b, script.Encode(l))
		if slices.ContainsFunc(r.Events, func(e api.Event) bool { return e.Kind == api.EvDma }) {
			continue
		}
		compared++
		whole, open := len(r.Events), r.Events[len(r.Events)-1].Kind == api.EvOpen
		if open {
			whole--
		}
		after, cells, outs, used := isa.Run(irq.Reset(api.CPU{Chip: chip}), b.Regions, b.Image, nil, whole)
		if used != whole || after != r.CPUs[whole-1] {
			t.Fatalf("%d of %d instructions lead to %+v, want %+v", used, whole, r.CPUs[whole-1], after)
		}
		if !open && (!slices.Equal(cells, r.System.Memory) || !slices.Equal(outs, r.System.Outs)) {
			t.Fatalf("the run ends with %+v, want the memory %v and the outputs %v", r.System, cells, outs)
		}
	}
	if compared < 60 {
		t.Errorf("only %d runs are without DMA bytes", compared)
	}
}

package board

import (
	"slices"

	"tstate/api"
	"tstate/core"
	"tstate/script"
)

// recorder is a system with the record of its run up to now.
type recorder struct {
	api.System
	trace  []api.Pins
	items  []api.Item
	events []api.Event
	cpus   []api.CPU
	cpu    api.CPU // the state that belongs to the last event
}

// recorded returns the record of the run of a board from a system on.
func recorded(b api.Board, s api.System, entries []byte) api.Run {
	r := recorder{System: s, cpu: s.Core.CPU}
	for _, in := range script.Decode(entries) {
		r.clock(b, in)
	}
	if core.Busy(r.Core) {
		r.add(api.Event{Kind: api.EvOpen, Source: r.Core.Source, Bytes: slices.Clone(r.Core.Got)}, r.cpu)
	}
	return api.Run{Trace: r.trace, Items: r.items, Events: r.events, CPUs: r.cpus, System: r.System}
}

// clock does one clock state and records it.
func (r *recorder) clock(b api.Board, in api.Input) {
	var x moment
	r.System, x = clocked(b, r.System, in)
	r.trace = append(r.trace, x.pins)
	r.recordItem(x)
	r.recordEvents(x)
}

// recordItem records a clock state as the beginning of an item or as a part of the last one.
func (r *recorder) recordItem(x moment) {
	item := x.item()
	if !r.continues(item, x.pins.State) {
		r.items = append(r.items, item)
		return
	}
	last := &r.items[len(r.items)-1]
	last.Cycle = item.Cycle
	if x.pins.State == api.TWait {
		last.Waits++
		return
	}
	last.N++
}

// continues reports whether a state belongs to the last item. item is the one that consists of the state alone.
func (r *recorder) continues(item api.Item, state int) bool {
	if item.Kind == api.ItemCycle {
		return state != api.T1
	}
	if len(r.items) == 0 {
		return false
	}
	last := r.items[len(r.items)-1]
	return last.Kind == item.Kind && last.Inte == item.Inte && last.Sod == item.Sod
}

// recordEvents records what has happened at the end of a clock state.
func (r *recorder) recordEvents(x moment) {
	switch {
	case x.lines.Reset:
		if core.Busy(x.before) {
			r.add(x.cut(), r.cpu)
		}
		r.add(x.event(api.EvReset, x.before.CPU), x.after.CPU)
	case x.ends():
		r.add(x.instruction())
	case x.moved:
		r.add(api.Event{Kind: api.EvDma, Cell: x.cell}, r.cpu)
	}
}

// add records an event and the CPU state that belongs to it.
func (r *recorder) add(e api.Event, c api.CPU) {
	r.events, r.cpus = append(r.events, e), append(r.cpus, c)
	r.cpu = c
}

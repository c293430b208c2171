package grammar

import (
	"tstate/api"
	"tstate/status"
)

// pinsOf returns the pins of a chip in a state of an item. They follow from the item alone, and not from package core, so
// that a trace of a processor can be compared with them.
func pinsOf(chip int, x api.Item, state int) api.Pins {
	p := api.Pins{State: state}
	switch x.Kind {
	case api.ItemCycle:
		p.Addr, p.Data = x.Cycle.At, transferred(x.Cycle, state)
	case api.ItemHold:
		p.Float, p.Hlda = true, true
	}
	if chip == api.Chip8085 {
		return pins8085(p, x)
	}
	return pins8080(p, x)
}

// transferred returns the byte that a machine cycle shows in a state because it reads or writes it, or 0. A byte that is
// written is there from T2 on, one that is read in T3 alone.
func transferred(c api.Cycle, state int) byte {
	switch state {
	case api.T2, api.TWait:
		if status.Writes(c.Kind) {
			return c.Data
		}
	case api.T3:
		if status.Reads(c.Kind) || status.Writes(c.Kind) {
			return c.Data
		}
	}
	return 0
}

// pins8080 returns the pins p of a state of an item with those that only the 8080 has, or has in a way of its own.
func pins8080(p api.Pins, x api.Item) api.Pins {
	kind := x.Cycle.Kind
	reads, writes := status.Reads(kind), status.Writes(kind)
	p.Inte = x.Inte
	switch p.State {
	case api.T1:
		p.Sync, p.Data = kind != api.CycIdle && kind != api.CycRst, status.Byte(kind)
	case api.T2:
		p.Dbin = reads
	case api.TWait:
		p.Dbin, p.Wr, p.Wait = reads, writes, true
	case api.T3:
		p.Dbin, p.Wr = reads, writes
	case api.THalt:
		p.Addr, p.Wait = x.Cycle.At, true
	}
	return p
}

// pins8085 returns the pins p of a state of an item with those that only the 8085 has, or has in a way of its own.
func pins8085(p api.Pins, x api.Item) api.Pins {
	kind := x.Cycle.Kind
	p.Sod = x.Sod
	if x.Kind == api.ItemCycle {
		p.IOM, p.S1, p.S0 = status.Lines(kind)
	}
	switch p.State {
	case api.T1:
		p.Ale, p.Data = true, byte(x.Cycle.At)
	case api.T2, api.TWait, api.T3:
		p.Inta = kind == api.CycAck || kind == api.CycMore
		p.Rd = status.Reads(kind) && !p.Inta
		p.Wr = status.Writes(kind)
	case api.THalt, api.TReset:
		p.Float = true
	}
	return p
}

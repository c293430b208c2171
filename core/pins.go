package core

import (
	"tstate/api"
	"tstate/status"
)

// pinsOf returns the pins of a core in a state, with the byte on the bus.
func pinsOf(c api.Core, state int, data byte) api.Pins {
	p := api.Pins{State: state}
	switch {
	case inCycle(state):
		p.Addr = c.Cycle.At
		p.Data = busData(c.Cycle, state, data)
	case state == api.THold:
		p.Float, p.Hlda = true, true
	}
	if c.CPU.Chip == api.Chip8085 {
		return pins8085(p, c)
	}
	return pins8080(p, c)
}

// inCycle reports whether a state belongs to a machine cycle.
func inCycle(state int) bool { return state >= api.T1 && state <= api.TWait }

// busData returns the byte of a machine cycle in a state, and 0 where it shows none. A byte that is written is there
// from T2 on, one that is read in T3 alone.
func busData(cycle api.Cycle, state int, data byte) byte {
	switch {
	case state == api.T3 && status.Reads(cycle.Kind):
		return data
	case transfers(state) && status.Writes(cycle.Kind):
		return cycle.Data
	}
	return 0
}

// transfers reports whether a state is one of those in which a machine cycle accesses the bus.
func transfers(state int) bool { return state == api.T2 || state == api.TWait || state == api.T3 }

// pins8080 returns the pins p with those that only the 8080 has, or has in a way of its own.
func pins8080(p api.Pins, c api.Core) api.Pins {
	kind := c.Cycle.Kind
	p.Inte = c.CPU.IE
	p.Dbin = transfers(p.State) && status.Reads(kind)
	switch p.State {
	case api.T1:
		if kind != api.CycIdle && kind != api.CycRst {
			p.Sync, p.Data = true, status.Byte(kind)
		}
	case api.TWait:
		p.Wr, p.Wait = status.Writes(kind), true
	case api.T3:
		p.Wr = status.Writes(kind)
	case api.THalt:
		p.Addr, p.Wait = c.CPU.Regs.PC, true
	}
	return p
}

// pins8085 returns the pins p with those that only the 8085 has, or has in a way of its own.
func pins8085(p api.Pins, c api.Core) api.Pins {
	kind := c.Cycle.Kind
	p.Sod = c.CPU.SOD
	if inCycle(p.State) {
		p.IOM, p.S1, p.S0 = status.Lines(kind)
	}
	if transfers(p.State) {
		p.Inta = kind == api.CycAck || kind == api.CycMore
		p.Rd = status.Reads(kind) && !p.Inta
		p.Wr = status.Writes(kind)
	}
	switch p.State {
	case api.T1:
		p.Ale, p.Data = true, byte(c.Cycle.At)
	case api.THalt, api.TReset:
		p.Float = true
	}
	return p
}

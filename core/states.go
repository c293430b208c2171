package core

import (
	"tstate/api"
	"tstate/irq"
	"tstate/micro"
	"tstate/status"
)

// stateOf returns the state in which a core is with the levels l. Numbers that name no state count as T1.
func stateOf(c api.Core, l api.Lines) int {
	switch {
	case l.Reset:
		return api.TReset
	case c.Next < api.T1 || c.Next > api.THalt:
		return api.T1
	}
	return c.Next
}

// reset returns the core after a clock state in which RESET is active, with the CPU before it.
func reset(c api.CPU) api.Core {
	return begun(api.Core{CPU: irq.Reset(c), Next: api.T1}, api.FromNone)
}

// after returns the core after one of its states. Its latches are already those after this state.
func after(c api.Core, state int, l api.Lines, data byte) api.Core {
	switch state {
	case api.T2, api.TWait:
		return afterWaiting(c, l)
	case api.T3:
		return afterStep(transferred(c, data), state, l)
	case api.T4, api.T5, api.T6:
		return afterStep(c, state, l)
	case api.THold:
		c.Next = between(c, l.Hold)
		return c
	case api.THalt:
		return afterHalt(c, l)
	}
	c.Next = api.T2
	return c
}

// afterWaiting returns the core after T2 or a wait state. HOLD counts only in the last one of them.
func afterWaiting(c api.Core, l api.Lines) api.Core {
	if Accepts(c.Cycle.Kind) && !l.Ready {
		c.Next = api.TWait
		return c
	}
	c.Next, c.Hold = api.T3, l.Hold
	return c
}

// transferred returns the core with the byte that its machine cycle reads or writes. The opcode tells how long its own
// cycle is.
func transferred(c api.Core, data byte) api.Core {
	if status.Reads(c.Cycle.Kind) {
		c.Cycle.Data = data
	}
	c.Got = append(c.Got, c.Cycle.Data)
	switch c.Cycle.Kind {
	case api.CycFetch, api.CycAck:
		c.Cycle.States = micro.First(c.CPU.Chip, c.Cycle.Data)
	}
	return c
}

// afterStep returns the core after one of the states T3 to T6, whose numbers are those of the states of the cycle that
// are over.
func afterStep(c api.Core, state int, l api.Lines) api.Core {
	if c.Cycle.States > state && state < api.T6 {
		c.Next = state + 1
		return c
	}
	return afterCycle(c, l)
}

// afterCycle returns the core after the last state of a machine cycle.
func afterCycle(c api.Core, l api.Lines) api.Core {
	if cycle, more := micro.Next(c.CPU, c.Source, c.Got); more {
		c.Cycle = cycle
	} else {
		c.CPU = micro.Finish(c.CPU, c.Source, c.Got, l)
		c = begun(c, irq.Pick(c.CPU, l))
	}
	c.Next, c.Hold = between(c, c.Hold), false
	return c
}

// afterHalt returns the core after a halt state, which only an interrupt ends.
func afterHalt(c api.Core, l api.Lines) api.Core {
	c.Next = api.THalt
	if source := irq.Pick(c.CPU, l); source != api.FromNone {
		c = begun(c, source)
		c.Next = api.T1
	}
	if l.Hold {
		c.Next = api.THold
	}
	return c
}

// between returns the state that follows between two machine cycles.
func between(c api.Core, hold bool) int {
	switch {
	case hold:
		return api.THold
	case c.CPU.Halted && c.Source == api.FromNone:
		return api.THalt
	}
	return api.T1
}

// begun returns the core at the beginning of the service of a source, or of an instruction from memory for FromNone.
func begun(c api.Core, source int) api.Core {
	c.CPU = irq.Accept(c.CPU, source)
	c.Source, c.Got = source, nil
	c.Cycle, _ = micro.Next(c.CPU, source, nil)
	return c
}

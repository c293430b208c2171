package boundary

import (
	"tstate/api"
	"tstate/micro"
	"tstate/regions"
	"tstate/status"
)

// machine is a processor with its memory, between two events.
type machine struct {
	cpu   api.CPU
	cells []api.Cell
}

// fold returns what a value becomes with all events of a list, one after another.
func fold[V any](v V, l []api.Event, next func(V, api.Event) V) V {
	for _, e := range l {
		v = next(v, e)
	}
	return v
}

// latched returns the state c with the latches of an event.
func latched(c api.CPU, e api.Event) api.CPU {
	c.R75, c.Trap, c.Was75, c.WasTrap = e.R75, e.Trap, e.Was75, e.WasTrap
	return c
}

// completed returns the machine cycles whose bytes are got, of the instruction that begins in the state c. Bytes that are
// left when the instruction is complete belong to no cycle.
func completed(c api.CPU, source int, got []byte) []api.Cycle {
	var l []api.Cycle
	for n, b := range got {
		cycle, more := micro.Next(c, source, got[:n])
		if !more {
			break
		}
		l = append(l, transferred(c.Chip, cycle, b))
	}
	return l
}

// transferred returns a machine cycle with what its T3 gives it, where b is its byte. The number of states changes in the
// first cycle alone, since no other one reads an opcode.
func transferred(chip int, cycle api.Cycle, b byte) api.Cycle {
	if status.Reads(cycle.Kind) {
		cycle.Data = b
	}
	if cycle.Kind == api.CycFetch || cycle.Kind == api.CycAck {
		cycle.States = micro.First(chip, b)
	}
	return cycle
}

// stores returns the cells that an event writes, in order, wherever they are.
func stores(c api.CPU, e api.Event) []api.Cell {
	if e.Kind == api.EvDma {
		return []api.Cell{e.Cell}
	}
	var l []api.Cell
	for _, cycle := range Cycles(c, e) {
		if cycle.Kind == api.CycWrite || cycle.Kind == api.CycPush {
			l = append(l, api.Cell{At: cycle.At, Val: cycle.Data})
		}
	}
	return l
}

// written returns the memory m after cells have been written, as far as they are in RAM.
func written(areas []api.Region, m, cells []api.Cell) []api.Cell {
	for _, x := range cells {
		m = regions.Write(areas, m, x.At, x.Val)
	}
	return m
}

package board_test

import (
	"bytes"
	"slices"
	"testing"

	"tstate/api"
	"tstate/board"
	"tstate/core"
	"tstate/dma"
	"tstate/pic"
)

// sameCore reports whether two cores are equal.
func sameCore(a, b api.Core) bool {
	return a.CPU == b.CPU && a.Source == b.Source && bytes.Equal(a.Got, b.Got) && a.Cycle == b.Cycle && a.Next == b.Next && a.Hold == b.Hold
}

// sameSystem reports whether two systems are equal.
func sameSystem(a, b api.System) bool {
	return sameCore(a.Core, b.Core) && slices.Equal(a.Memory, b.Memory) && a.PIC == b.PIC && a.DMA == b.DMA && a.Waited == b.Waited && slices.Equal(a.Outs, b.Outs)
}

// region returns the first region of an address.
func region(l []api.Region, at uint16) (api.Region, bool) {
	for _, r := range l {
		if at >= r.From && at <= r.To {
			return r, true
		}
	}
	return api.Region{}, false
}

// byteAt is a model of what a cycle reads from the memory.
func byteAt(l []api.Region, m []api.Cell, at uint16) (v byte) {
	if _, exists := region(l, at); !exists {
		return 0xFF
	}
	for _, c := range m {
		if c.At == at {
			v = c.Val
		}
	}
	return v
}

// stored is a model of the memory after a byte was written: normal, also if the address is not one of RAM.
func stored(l []api.Region, m []api.Cell, at uint16, v byte) (after []api.Cell) {
	values := map[uint16]byte{}
	for _, c := range m {
		values[c.At] = c.Val
	}
	if r, _ := region(l, at); r.RAM {
		values[at] = v
	}
	for a, v := range values {
		if v != 0 {
			after = append(after, api.Cell{At: a, Val: v})
		}
	}
	slices.SortFunc(after, func(x, y api.Cell) int { return int(x.At) - int(y.At) })
	return after
}

// wanted is a model of the wait states that a cycle needs.
func wanted(b api.Board, c api.Cycle) (need int) {
	switch c.Kind {
	case 1, 2, 3, 4, 5:
		r, _ := region(b.Regions, c.At)
		need = r.Waits
	case 6, 7:
		need = b.IOWaits
	}
	if need < 0 {
		return 0
	}
	if need > 100 {
		return 100
	}
	return need
}

// ports lists what answers at each port: c the controller, m the DMA master, and 0 neither of them, with the register.
func ports(b api.Board) (who [256]byte, register [256]int) {
	for i := range 4 {
		port := (int(b.DmaPort) + i) % 256
		who[port], register[port] = 'm', i
	}
	for i := range 2 {
		if port := (int(b.PicPort) + i) % 256; !b.Jam {
			who[port], register[port] = 'c', i
		}
	}
	return who, register
}

// A frame is one clock state of the model.
type frame struct {
	before, after api.System
	lines         api.Lines
	pins          api.Pins
	cell          []api.Cell // of the DMA master
}

// clocked is a model of a clock state: the sentences of P25.2, one after another.
func clocked(b api.Board, s api.System, in api.Input) frame {
	f := frame{before: s, after: s}
	n, cycle := &f.after, s.Core.Cycle
	f.lines = api.Lines{Ready: in.Ready, Hold: in.Hold, Reset: in.Reset, Sid: in.Sid, Trap: in.Trap, R75: in.R75, R65: in.R65, R55: in.R55}
	if b.Jam {
		f.lines.Intr = in.Requests%2 == 1
	} else {
		n.PIC = pic.Raise(s.PIC, in.Requests)
		f.lines.Intr = pic.Int(n.PIC)
	}
	if s.DMA.Left > 0 {
		f.lines.Hold = true
	}
	n.Waited = 0
	if s.Core.Next == 7 {
		n.Waited = s.Waited + 1
	}
	if n.Waited < wanted(b, cycle) {
		f.lines.Ready = false
	}
	var data byte
	if !in.Reset && s.Core.Next == 3 {
		data = answer(b, n, in)
	}
	n.Core, f.pins = core.Clock(s.Core, f.lines, data)
	if !in.Reset && s.Core.Next == 3 {
		take(b, n, cycle)
	}
	if f.pins.Hlda && n.DMA.Left > 0 {
		f.cell = []api.Cell{{At: n.DMA.At, Val: n.DMA.Value}}
		n.Memory = stored(b.Regions, n.Memory, n.DMA.At, n.DMA.Value)
		n.DMA.At++
		n.DMA.Left--
	}
	if in.Reset {
		n.DMA.Left, n.PIC.Step = 0, 0
	}
	return f
}

// answer is the part of the model for the byte on the bus in T3.
func answer(b api.Board, n *api.System, in api.Input) (data byte) {
	cycle := n.Core.Cycle
	switch cycle.Kind {
	case 1, 2, 4:
		return byteAt(b.Regions, n.Memory, cycle.At)
	case 8, 9:
		if b.Jam {
			return in.Port
		}
		n.PIC, data = pic.Ack(n.PIC)
	case 6:
		who, register := ports(b)
		port := cycle.At % 256
		switch who[port] {
		case 'c':
			n.PIC, data = pic.Read(n.PIC, register[port] == 1)
		case 'm':
			data = dma.Read(n.DMA, register[port])
		default:
			data = in.Port
		}
	}
	return data
}

// take is the part of the model for the byte that a cycle writes in T3.
func take(b api.Board, n *api.System, cycle api.Cycle) {
	switch cycle.Kind {
	case 3, 5:
		n.Memory = stored(b.Regions, n.Memory, cycle.At, cycle.Data)
	case 7:
		who, register := ports(b)
		port := cycle.At % 256
		n.Outs = append(slices.Clone(n.Outs), api.Output{Port: byte(port), Val: cycle.Data})
		switch who[port] {
		case 'c':
			n.PIC = pic.Write(n.PIC, register[port] == 1, cycle.Data)
		case 'm':
			n.DMA = dma.Write(n.DMA, register[port], cycle.Data)
		}
	}
}

// checkClock compares a clock state with that of the model, and returns the system after it.
func checkClock(t *testing.T, b api.Board, s api.System, in api.Input) api.System {
	t.Helper()
	want := clocked(b, s, in)
	got, pins := board.Clock(b, s, in)
	if !sameSystem(got, want.after) || pins != want.pins {
		t.Fatalf("Clock(%+v, %+v, %+v) gives\n%+v\n%+v, want\n%+v\n%+v", b, s, in, got, pins, want.after, want.pins)
	}
	return got
}

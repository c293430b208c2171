package core_test

import (
	"slices"
	"strings"
	"testing"

	"tstate/api"
	"tstate/cond"
	"tstate/core"
	"tstate/cycles"
	"tstate/irq"
	"tstate/isa"
	"tstate/micro"
	"tstate/opcode"
)

// everywhere is a memory map of RAM alone.
var everywhere = []api.Region{{From: 0x0000, To: 0xFFFF, RAM: true}}

// beginning returns a player before the service of a source, or before an instruction from memory. No further interrupt
// is served, and the latches do not change as long as the lines are low.
func (m maker) beginning(chip int, op byte, source int) *player {
	x := &player{ins: m.bytes(5)}
	c := m.cpu(chip)
	c.IE, c.Halted, c.Trap, c.WasTrap, c.Was75 = false, false, false, false, false
	c = irq.Accept(c, source)
	x.core = api.Core{CPU: c, Source: source, Next: api.T1}
	x.core.Cycle, _ = micro.Next(c, source, nil)
	at := func(high, low byte) uint16 { return uint16(high)<<8 | uint16(low) }
	for _, from := range []uint16{c.Regs.SP, at(c.Regs.H, c.Regs.L), at(c.Regs.D, c.Regs.E), at(c.Regs.B, c.Regs.C), c.Regs.PC + 1} {
		x.bytes[from], x.bytes[from+1] = m.byte(), m.byte()
	}
	x.bytes[c.Regs.PC], x.ins[0] = op, op
	return x
}

// copied returns a player that goes on as x would.
func (x *player) copied() *player {
	y := *x
	return &y
}

// finish clocks a player to the end of the instruction, with the levels that it gets from the letters. Hold states that
// come before the instruction do not belong to it.
func (x *player) finish(t *testing.T, letter func() rune) {
	t.Helper()
	for began := false; !began || core.Busy(x.core); {
		if len(x.states) > 100000 {
			t.Fatalf("the instruction does not end: %+v", x.core)
		}
		began = began || x.core.Next != api.THold
		x.clock(t, levels(letter()))
	}
}

// always is a source of levels that are ready.
func always() rune { return '.' }

// sometimes is a source of levels that are ready or not, with HOLD or without.
func (m maker) sometimes() rune { return rune("...wwhH"[m.IntN(7)]) }

// count returns the number of states with one of some letters.
func (x *player) count(letters string) (n int) {
	for _, letter := range letters {
		n += strings.Count(x.states, string(letter))
	}
	return n
}

// checkInstruction plays an instruction without and with wait and hold states, and compares it with the interpreter and
// with a number of states.
func checkInstruction(t *testing.T, m maker, x *player, total int) {
	t.Helper()
	y, c, source, cells, ins := x.copied(), x.core.CPU, x.core.Source, x.memory(), x.ins
	x.finish(t, always)
	if len(x.states) != total {
		t.Fatalf("%+v with the source %d takes %s, want %d states", c, source, x.states, total)
	}
	after, memory, outs, got := isa.Step(c, everywhere, cells, source, ins, levels('.'))
	if x.core.CPU != after || !slices.Equal(x.memory(), memory) || !slices.Equal(x.outs, outs) {
		t.Fatalf("%+v with the source %d leads to %+v and %v, want %+v and %v", c, source, x.core.CPU, x.outs, after, outs)
	}
	for n, cycle := range x.cycles {
		if bus := cycle.Kind < api.CycHalt; n >= len(got) || bus && cycle.Data != got[n] {
			t.Fatalf("%+v with the source %d has the cycles %+v, want the bytes % x", c, source, x.cycles, got)
		}
	}
	y.finish(t, m.sometimes)
	if !slices.Equal(y.cycles, x.cycles) || y.core.CPU != after || !slices.Equal(y.memory(), memory) || !slices.Equal(y.outs, outs) {
		t.Fatalf("with the states %s, %+v with the source %d leads to %+v by the cycles %+v, want %+v by %+v", y.states, c, source, y.core.CPU, y.cycles, after, x.cycles)
	}
	if y.count("123456") != total || y.count("123456wh") != len(y.states) {
		t.Fatalf("the states %s are not %d states with wait and hold states", y.states, total)
	}
}

// P20.4: all opcodes on all chips, from memory and injected, without any flag, with all of them and with some.
func TestCountsOfInstructions(t *testing.T) {
	m := newMaker()
	for i, chip := range chips {
		for op := range 256 {
			for n := range 6 {
				if i > 1 && n != op%6 {
					continue // the other numbers of chips are no chips of their own
				}
				x := m.beginning(chip, byte(op), []int{api.FromNone, api.FromIntr}[n%2])
				f := &x.core.CPU.Regs.F
				switch n / 2 {
				case 0:
					*f = api.Flags{}
				case 1:
					*f = api.Flags{S: true, Z: true, K: true, AC: true, P: true, V: true, CY: true}
				}
				taken := cond.Holds(opcode.Decode(chip, byte(op)).Cond, *f)
				checkInstruction(t, m, x, cycles.Total(chip, byte(op), taken))
			}
		}
	}
}

// P20.4: the internal restarts.
func TestCountsOfRestarts(t *testing.T) {
	m := newMaker()
	for _, source := range restarts {
		for op := range 256 {
			checkInstruction(t, m, m.beginning(api.Chip8085, byte(op), source), cycles.Restart())
		}
	}
}

// P20.1 and P20.4: Busy from the first state on to the last but one.
func TestBusyWithinInstructions(t *testing.T) {
	m := newMaker()
	for _, chip := range both {
		for op := range 256 {
			for _, source := range []int{api.FromNone, api.FromIntr} {
				x := m.beginning(chip, byte(op), source)
				if core.Busy(x.core) != (source != api.FromNone) {
					t.Fatalf("Busy(%+v) is wrong before the first state", x.core)
				}
				y := x.copied()
				y.finish(t, always)
				for n := range y.states {
					x.clock(t, levels('.'))
					if last := n == len(y.states)-1; core.Busy(x.core) == last {
						t.Fatalf("Busy(%+v) is %t after %s of %s", x.core, !last, x.states, y.states)
					}
				}
			}
		}
	}
}

// P20.4: instructions one after another, with wait and hold states and with halt states at the end, do what the
// interpreter does.
func TestRunsOfInstructions(t *testing.T) {
	m := newMaker()
	for _, chip := range both {
		for range 12 {
			x := &player{core: core.New(chip)}
			for at := range x.bytes[:400] {
				x.bytes[at] = m.byte()
			}
			x.core.CPU.Regs.SP = 0x0200
			x.ins = m.bytes(8)
			for range 60 {
				c, cells, ins := x.core.CPU, x.memory(), x.ins
				if c.Halted {
					break
				}
				before := len(x.outs)
				x.finish(t, m.sometimes)
				after, memory, outs, _ := isa.Step(c, everywhere, cells, api.FromNone, ins, api.Lines{})
				if x.core.CPU != after || !slices.Equal(x.memory(), memory) || !slices.Equal(x.outs[before:], outs) {
					t.Fatalf("%+v leads to %+v, want %+v", c, x.core.CPU, after)
				}
			}
			if x.core.CPU.Halted {
				x.states = ""
				for range 5 {
					x.clock(t, levels('.'))
				}
				if !strings.HasSuffix(x.states, "zzzz") {
					t.Errorf("a processor that is halted has the states %s", x.states)
				}
			}
		}
	}
}

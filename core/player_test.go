package core_test

import (
	"slices"
	"testing"

	"tstate/api"
	"tstate/core"
)

// A player clocks a core on a memory of RAM alone, with bytes from outside and outputs.
type player struct {
	core   api.Core
	bytes  [1 << 16]byte
	ins    []byte
	outs   []api.Output
	states string      // a letter for each state: its number, w for TWait, h for THold, z for THalt, r for TReset
	cycles []api.Cycle // with the states that were seen, without wait states, and the byte
}

// clock does one clock state.
func (x *player) clock(t *testing.T, l api.Lines) {
	t.Helper()
	before, data := x.core, byte(0xEE)
	if before.Next == api.T3 && !l.Reset {
		data = x.transfer(before.Cycle)
	}
	var pins api.Pins
	x.core, pins = core.Clock(before, l, data)
	x.states += string("?123456whzr"[pins.State])
	switch pins.State {
	case api.T1:
		x.cycles = append(x.cycles, before.Cycle)
		x.cycles[len(x.cycles)-1].States = 1
	case api.T2, api.T3, api.T4, api.T5, api.T6:
		last := &x.cycles[len(x.cycles)-1]
		last.States++
		if pins.State == api.T3 {
			last.Data = pins.Data
		}
		if last.At != pins.Addr || last.Kind != before.Cycle.Kind {
			t.Fatalf("the cycle %+v goes on as %+v", *last, before.Cycle)
		}
	}
}

// transfer does what a cycle asks of the memory and the ports in T3, and returns the byte on the bus.
func (x *player) transfer(cycle api.Cycle) byte {
	switch cycle.Kind {
	case api.CycFetch, api.CycRead, api.CycPop:
		return x.bytes[cycle.At]
	case api.CycWrite, api.CycPush:
		x.bytes[cycle.At] = cycle.Data
	case api.CycOut:
		x.outs = append(x.outs, api.Output{Port: byte(cycle.At), Val: cycle.Data})
	case api.CycIn, api.CycAck, api.CycMore:
		if len(x.ins) > 0 {
			b := x.ins[0]
			x.ins = x.ins[1:]
			return b
		}
		return 0
	}
	return 0xEE
}

// memory returns the memory with the bytes of the player.
func (x *player) memory() (m []api.Cell) {
	for at, v := range x.bytes {
		if v != 0 {
			m = append(m, api.Cell{At: uint16(at), Val: v})
		}
	}
	return m
}

// levels returns the levels for a letter. READY is high, but for w and H.
func levels(letter rune) api.Lines {
	l := api.Lines{Ready: letter != 'w' && letter != 'H'}
	switch letter {
	case 'h', 'H':
		l.Hold = true
	case 'r':
		l.Reset = true
	case 's':
		l.Sid = true
	case 't':
		l.Trap = true
	case 'T':
		l.Trap, l.Hold = true, true
	case '7':
		l.R75 = true
	case '6':
		l.R65 = true
	case '5':
		l.R55 = true
	case 'i':
		l.Intr = true
	case 'I':
		l.Intr, l.Hold = true, true
	case 'a':
		l.Trap, l.R75, l.R65, l.R55, l.Intr = true, true, true, true, true
	}
	return l
}

// A scene is a core with code at the address 0, or bytes for acknowledge cycles, that is clocked with some levels. It has
// a letter for each level and each state; after is what is expected of the core at the end.
type scene struct {
	chip           int
	code, ins      []byte
	levels, states string
	after          outcome
}

// outcome is the part of a core that the end of a scene names.
type outcome struct {
	source, next, kind int
	pc                 uint16
}

// play plays a scene, beginning with a CPU that change makes of that of New.
func play(t *testing.T, s scene, change func(c *api.CPU)) *player {
	t.Helper()
	x := &player{core: core.New(s.chip), ins: slices.Clone(s.ins)}
	copy(x.bytes[:], s.code)
	x.core.CPU.Regs.SP = 0x8000
	if change != nil {
		change(&x.core.CPU)
	}
	for _, letter := range s.levels {
		x.clock(t, levels(letter))
	}
	if x.states != s.states {
		t.Errorf("% x on the chip %d with the levels %s has the states %s, want %s", s.code, s.chip, s.levels, x.states, s.states)
	}
	c := x.core
	if got := (outcome{c.Source, c.Next, c.Cycle.Kind, c.CPU.Regs.PC}); got != s.after {
		t.Errorf("% x on the chip %d with the levels %s ends with %+v, want %+v", s.code, s.chip, s.levels, got, s.after)
	}
	return x
}

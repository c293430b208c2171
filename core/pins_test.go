package core_test

import (
	"testing"

	"tstate/api"
	"tstate/core"
)

// bus is what the pins show of a kind of machine cycles: on the 8080 whether there is SYNC and the status byte, on the
// 8085 the levels of IO/M, S1 and S0, and on both what it does: r reads, a acknowledges, w writes.
type bus struct {
	kind   int
	sync   bool
	early  byte
	later  string
	access byte
}

var buses = []bus{
	{api.CycFetch, true, 0xA2, "011", 'r'}, {api.CycRead, true, 0x82, "010", 'r'}, {api.CycWrite, true, 0x00, "001", 'w'},
	{api.CycPop, true, 0x86, "010", 'r'}, {api.CycPush, true, 0x04, "001", 'w'}, {api.CycIn, true, 0x42, "110", 'r'},
	{api.CycOut, true, 0x10, "101", 'w'}, {api.CycAck, true, 0x23, "111", 'a'}, {api.CycMore, true, 0x03, "111", 'a'},
	{api.CycHalt, true, 0x8A, "000", '-'}, {api.CycIdle, false, 0, "010", '-'}, {api.CycRst, false, 0, "111", '-'},
}

// busOf returns what the pins show of a kind. Numbers that are no kinds have a SYNC like the others.
func busOf(kind int) bus {
	for _, b := range buses {
		if b.kind == kind {
			return b
		}
	}
	return bus{kind, true, 0, "000", '-'}
}

// pinned is a model of the pins of a clock state: the sentences of P20.3, with all pins that have a level in a state.
func pinned(c api.Core, l api.Lines, data byte) api.Pins {
	state := stateOf(c.Next)
	if l.Reset {
		state = api.TReset
	}
	early, b := c.CPU.Chip != 2, busOf(c.Cycle.Kind)
	p := api.Pins{State: state, Inte: early && c.CPU.IE, Sod: !early && c.CPU.SOD}
	switch state {
	case api.T1, api.T2, api.T3, api.T4, api.T5, api.T6, api.TWait:
		p.Addr = c.Cycle.At
		if !early {
			p.IOM, p.S1, p.S0 = b.later[0] == '1', b.later[1] == '1', b.later[2] == '1'
		}
	}
	switch state {
	case api.T1:
		if early {
			p.Sync, p.Data = b.sync, b.early
		} else {
			p.Ale, p.Data = true, byte(c.Cycle.At%256)
		}
	case api.T2, api.TWait, api.T3:
		p.Dbin = early && (b.access == 'r' || b.access == 'a')
		p.Rd, p.Inta = !early && b.access == 'r', !early && b.access == 'a'
		p.Wr = b.access == 'w' && (!early || state != api.T2)
		p.Wait = early && state == api.TWait
		if b.access == 'w' {
			p.Data = c.Cycle.Data
		} else if b.access != '-' && state == api.T3 {
			p.Data = data
		}
	case api.THold:
		p.Float, p.Hlda = true, true
	case api.THalt:
		if p.Wait, p.Float = early, !early; early {
			p.Addr = c.CPU.Regs.PC
		}
	case api.TReset:
		p.Float = !early
	}
	return p
}

// P20.3: every state of every kind of machine cycles on all chips, with the levels of IE and SOD and with RESET.
func TestPinsOfAllStates(t *testing.T) {
	m := newMaker()
	for _, chip := range chips {
		for _, kind := range kinds {
			for _, next := range states {
				for n := range 8 {
					c, l := m.core(chip), m.lines()
					c.Cycle.Kind, c.Next = kind, next
					c.CPU.IE, c.CPU.SOD, l.Reset = n&1 == 1, n&2 == 2, n&4 == 4
					data := m.byte()
					if _, got := core.Clock(c, l, data); got != pinned(c, l, data) {
						t.Fatalf("Clock(%+v, %+v, %#02x) gives the pins\n%+v, want\n%+v", c, l, data, got, pinned(c, l, data))
					}
				}
			}
		}
	}
}

// P20.3: the pins that have a level in each state of some machine cycles, spelled out. The cycles are at 0x1234 and write
// 0x56; the byte on the bus is 0x78, and PC is 0x9ABC.
func TestPinsExamples(t *testing.T) {
	const T1, T2, T3, T4, T5, T6, TWait, THold, THalt, TReset = 1, 2, 3, 4, 5, 6, 7, 8, 9, 10
	for _, x := range []struct {
		chip, kind int
		want       api.Pins
	}{
		{1, api.CycFetch, api.Pins{State: T1, Addr: 0x1234, Data: 0xA2, Sync: true}},
		{1, api.CycFetch, api.Pins{State: T2, Addr: 0x1234, Dbin: true}},
		{1, api.CycFetch, api.Pins{State: TWait, Addr: 0x1234, Dbin: true, Wait: true}},
		{1, api.CycFetch, api.Pins{State: T3, Addr: 0x1234, Data: 0x78, Dbin: true}},
		{1, api.CycFetch, api.Pins{State: T4, Addr: 0x1234}}, {1, api.CycFetch, api.Pins{State: T5, Addr: 0x1234}},
		{1, api.CycWrite, api.Pins{State: T1, Addr: 0x1234, Data: 0x00, Sync: true}},
		{1, api.CycWrite, api.Pins{State: T2, Addr: 0x1234, Data: 0x56}},
		{1, api.CycWrite, api.Pins{State: TWait, Addr: 0x1234, Data: 0x56, Wr: true, Wait: true}},
		{1, api.CycWrite, api.Pins{State: T3, Addr: 0x1234, Data: 0x56, Wr: true}}, {1, api.CycWrite, api.Pins{State: T4, Addr: 0x1234}},
		{1, api.CycPush, api.Pins{State: T1, Addr: 0x1234, Data: 0x04, Sync: true}}, {1, api.CycPush, api.Pins{State: T5, Addr: 0x1234}},
		{1, api.CycIn, api.Pins{State: T1, Addr: 0x1234, Data: 0x42, Sync: true}}, {1, api.CycIn, api.Pins{State: T3, Addr: 0x1234, Data: 0x78, Dbin: true}},
		{1, api.CycAck, api.Pins{State: T1, Addr: 0x1234, Data: 0x23, Sync: true}}, {1, api.CycAck, api.Pins{State: T2, Addr: 0x1234, Dbin: true}},
		{1, api.CycMore, api.Pins{State: T1, Addr: 0x1234, Data: 0x03, Sync: true}}, {1, api.CycMore, api.Pins{State: T3, Addr: 0x1234, Data: 0x78, Dbin: true}},
		{1, api.CycHalt, api.Pins{State: T1, Addr: 0x1234, Data: 0x8A, Sync: true}}, {1, api.CycHalt, api.Pins{State: T3, Addr: 0x1234}},
		{1, api.CycIdle, api.Pins{State: T1, Addr: 0x1234}}, {1, api.CycIdle, api.Pins{State: T3, Addr: 0x1234}}, {1, api.CycRst, api.Pins{State: T1, Addr: 0x1234}},
		{1, 99, api.Pins{State: T1, Addr: 0x1234, Sync: true}},
		{1, api.CycRead, api.Pins{State: THold, Float: true, Hlda: true}}, {1, api.CycRead, api.Pins{State: THalt, Addr: 0x9ABC, Wait: true}}, {1, api.CycRead, api.Pins{State: TReset}},
		{2, api.CycFetch, api.Pins{State: T1, Addr: 0x1234, Data: 0x34, Ale: true, S1: true, S0: true}},
		{2, api.CycFetch, api.Pins{State: T2, Addr: 0x1234, S1: true, S0: true, Rd: true}},
		{2, api.CycFetch, api.Pins{State: TWait, Addr: 0x1234, S1: true, S0: true, Rd: true}},
		{2, api.CycFetch, api.Pins{State: T3, Addr: 0x1234, Data: 0x78, S1: true, S0: true, Rd: true}},
		{2, api.CycFetch, api.Pins{State: T4, Addr: 0x1234, S1: true, S0: true}}, {2, api.CycFetch, api.Pins{State: T6, Addr: 0x1234, S1: true, S0: true}},
		{2, api.CycOut, api.Pins{State: T1, Addr: 0x1234, Data: 0x34, Ale: true, IOM: true, S0: true}},
		{2, api.CycOut, api.Pins{State: T2, Addr: 0x1234, Data: 0x56, IOM: true, S0: true, Wr: true}},
		{2, api.CycOut, api.Pins{State: TWait, Addr: 0x1234, Data: 0x56, IOM: true, S0: true, Wr: true}},
		{2, api.CycOut, api.Pins{State: T3, Addr: 0x1234, Data: 0x56, IOM: true, S0: true, Wr: true}},
		{2, api.CycPush, api.Pins{State: T4, Addr: 0x1234, S0: true}}, {2, api.CycPop, api.Pins{State: T2, Addr: 0x1234, S1: true, Rd: true}},
		{2, api.CycAck, api.Pins{State: T2, Addr: 0x1234, IOM: true, S1: true, S0: true, Inta: true}},
		{2, api.CycAck, api.Pins{State: T3, Addr: 0x1234, Data: 0x78, IOM: true, S1: true, S0: true, Inta: true}},
		{2, api.CycMore, api.Pins{State: TWait, Addr: 0x1234, IOM: true, S1: true, S0: true, Inta: true}},
		{2, api.CycRst, api.Pins{State: T1, Addr: 0x1234, Data: 0x34, Ale: true, IOM: true, S1: true, S0: true}},
		{2, api.CycRst, api.Pins{State: T3, Addr: 0x1234, IOM: true, S1: true, S0: true}},
		{2, api.CycIdle, api.Pins{State: T1, Addr: 0x1234, Data: 0x34, Ale: true, S1: true}}, {2, api.CycIdle, api.Pins{State: T2, Addr: 0x1234, S1: true}},
		{2, api.CycHalt, api.Pins{State: T2, Addr: 0x1234}}, {2, -1, api.Pins{State: T3, Addr: 0x1234}},
		{2, api.CycRead, api.Pins{State: THold, Float: true, Hlda: true}}, {2, api.CycRead, api.Pins{State: THalt, Float: true}}, {2, api.CycRead, api.Pins{State: TReset, Float: true}},
	} {
		c := api.Core{CPU: api.CPU{Chip: x.chip}, Cycle: api.Cycle{Kind: x.kind, At: 0x1234, Data: 0x56, States: 6}, Next: x.want.State}
		c.CPU.Regs.PC = 0x9ABC
		for _, on := range []bool{false, true} {
			c.CPU.IE, c.CPU.SOD = on, on
			x.want.Inte, x.want.Sod = on && x.chip == 1, on && x.chip == 2
			l := api.Lines{Reset: x.want.State == TReset}
			if _, got := core.Clock(c, l, 0x78); got != x.want {
				t.Errorf("the kind %d on the chip %d has the pins %+v, want %+v", x.kind, x.chip, got, x.want)
			}
		}
	}
}

// P20.3: Inte and Sod are those before the state, also in the state that changes them.
func TestPinsShowTheStateBefore(t *testing.T) {
	m := newMaker()
	for range 20000 {
		c, l := m.core(m.one(both)), m.lines()
		l.Reset = m.bool()
		_, got := core.Clock(c, l, m.byte())
		if got.Inte != (c.CPU.IE && c.CPU.Chip == 1) || got.Sod != (c.CPU.SOD && c.CPU.Chip == 2) {
			t.Fatalf("the pins of %+v are %+v", c, got)
		}
	}
	c := api.Core{CPU: api.CPU{Chip: api.Chip8080, IE: true, Halted: true}, Next: api.THalt}
	c, first := core.Clock(c, api.Lines{Intr: true}, 0)
	if _, second := core.Clock(c, api.Lines{}, 0); !first.Inte || second.Inte || c.CPU.IE {
		t.Errorf("INTE is %t in the state that accepts an interrupt, and %t in the next one", first.Inte, second.Inte)
	}
}

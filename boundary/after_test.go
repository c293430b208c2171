package boundary_test

import (
	"testing"

	"tstate/api"
	"tstate/boundary"
)

// checkAfter compares the state after an event with the state before it, changed by change.
func checkAfter(t *testing.T, name string, before api.CPU, e api.Event, change func(c *api.CPU)) {
	t.Helper()
	want := before
	change(&want)
	if got := boundary.After(before, e); got != want {
		t.Errorf("%s: After(%+v, %+v) = %+v, want %+v", name, before, e, got, want)
	}
}

// P27.1: events of the three kinds of instructions, spelled out for both chips.
func TestAfterInstructions(t *testing.T) {
	for _, chip := range both {
		for name, x := range map[string]struct {
			e      api.Event
			change func(c *api.CPU)
		}{
			"nop":             {event(api.EvInstr, 0, 0x00), func(c *api.CPU) { c.Regs.PC = 0x0101 }},
			"mvi":             {event(api.EvInstr, 0, 0x3E, 5), func(c *api.CPU) { c.Regs.A, c.Regs.PC = 5, 0x0102 }},
			"more bytes":      {event(api.EvInstr, 0, 0x3E, 5, 6, 7, 8, 9), func(c *api.CPU) { c.Regs.A, c.Regs.PC = 5, 0x0102 }},
			"missing byte":    {event(api.EvInstr, 0, 0x3E), func(c *api.CPU) { c.Regs.A, c.Regs.PC = 0, 0x0102 }},
			"no byte":         {event(api.EvInstr, 0), func(c *api.CPU) { c.Regs.PC = 0x0101 }},
			"read":            {event(api.EvInstr, 0, 0x7E, 5), func(c *api.CPU) { c.Regs.A, c.Regs.PC = 5, 0x0101 }},
			"push":            {event(api.EvInstr, 0, 0xC5, 9, 9), func(c *api.CPU) { c.Regs.SP, c.Regs.PC = 0x6FFE, 0x0101 }},
			"pop":             {event(api.EvInstr, 0, 0xC1, 9, 8), func(c *api.CPU) { c.Regs.B, c.Regs.C, c.Regs.SP, c.Regs.PC = 8, 9, 0x7002, 0x0101 }},
			"call":            {event(api.EvInstr, 0, 0xCD, 0x34, 0x02, 1, 3), func(c *api.CPU) { c.Regs.SP, c.Regs.PC = 0x6FFE, 0x0234 }},
			"ei":              {event(api.EvInstr, 0, 0xFB), func(c *api.CPU) { c.Delay, c.Regs.PC = true, 0x0101 }},
			"di":              {event(api.EvInstr, 0, 0xF3), func(c *api.CPU) { c.IE, c.Regs.PC = false, 0x0101 }},
			"hlt":             {event(api.EvInstr, 0, 0x76, 0), func(c *api.CPU) { c.Halted, c.Regs.PC = true, 0x0101 }},
			"injected mvi":    {event(api.EvInject, api.FromIntr, 0x3E, 5), func(c *api.CPU) { c.Regs.A, c.IE = 5, false }},
			"injected call":   {event(api.EvInject, api.FromIntr, 0xCD, 0x34, 0x02, 1, 0), func(c *api.CPU) { c.Regs.SP, c.Regs.PC, c.IE = 0x6FFE, 0x0234, false }},
			"injected rst":    {event(api.EvInject, api.FromIntr, 0xFF, 1, 0), func(c *api.CPU) { c.Regs.SP, c.Regs.PC, c.IE = 0x6FFE, 0x0038, false }},
			"injected ei":     {event(api.EvInject, api.FromIntr, 0xFB), func(c *api.CPU) { c.Delay = true }},
			"injected hlt":    {event(api.EvInject, api.FromIntr, 0x76, 0), func(c *api.CPU) { c.Halted, c.IE = true, false }},
			"injected none":   {event(api.EvInject, api.FromIntr), func(c *api.CPU) { c.IE = false }},
			"rst 7.5":         {event(api.EvInternal, api.From75, 0, 1, 0), func(c *api.CPU) { c.Regs.SP, c.Regs.PC, c.IE = 0x6FFE, 0x003C, false }},
			"rst 6.5":         {event(api.EvInternal, api.From65, 0, 1, 0), func(c *api.CPU) { c.Regs.SP, c.Regs.PC, c.IE = 0x6FFE, 0x0034, false }},
			"rst 5.5":         {event(api.EvInternal, api.From55, 0, 1, 0), func(c *api.CPU) { c.Regs.SP, c.Regs.PC, c.IE = 0x6FFE, 0x002C, false }},
			"no byte of 5.5":  {event(api.EvInternal, api.From55), func(c *api.CPU) { c.Regs.SP, c.Regs.PC, c.IE = 0x6FFE, 0x002C, false }},
			"trap":            {event(api.EvInternal, api.FromTrap, 0, 1, 0), func(c *api.CPU) { c.Regs.SP, c.Regs.PC, c.IE, c.Saved, c.SavedIE = 0x6FFE, 0x0024, false, true, true }},
			"instr with intr": {event(api.EvInstr, api.FromIntr, 0x3E, 5), func(c *api.CPU) { c.Regs.A, c.IE = 5, false }},
			"instr with 6.5":  {event(api.EvInstr, api.From65, 0x3E, 5), func(c *api.CPU) { c.Regs.SP, c.Regs.PC, c.IE = 0x6FFE, 0x0034, false }},
			"inject, none":    {event(api.EvInject, api.FromNone, 0x3E, 5), func(c *api.CPU) { c.Regs.A, c.Regs.PC = 5, 0x0102 }},
			"internal, none":  {event(api.EvInternal, api.FromNone, 0x3E, 5), func(c *api.CPU) { c.Regs.A, c.Regs.PC = 5, 0x0102 }},
			"internal, intr":  {event(api.EvInternal, api.FromIntr, 0x3E, 5), func(c *api.CPU) { c.Regs.A, c.IE = 5, false }},
			"source 6":        {event(api.EvInstr, 6, 0x3E, 5), func(c *api.CPU) { c.Regs.A, c.Regs.PC = 5, 0x0102 }},
			"source -1":       {event(api.EvInternal, -1, 0x3E, 5), func(c *api.CPU) { c.Regs.A, c.Regs.PC = 5, 0x0102 }},
		} {
			checkAfter(t, name, example(chip), x.e, x.change)
		}
	}
}

// P27.1: the service of an interrupt begins before the instruction has its effect, and ends a halt and the delay of EI.
func TestAfterAccepts(t *testing.T) {
	c := example(api.Chip8085)
	c.Halted, c.Delay = true, true
	for _, source := range []int{api.FromTrap, api.From75, api.From65, api.From55} {
		got := boundary.After(c, event(api.EvInternal, source, 0, 1, 0))
		if got.Halted || got.Delay || got.IE || got.Saved != (source == api.FromTrap) || got.SavedIE != (source == api.FromTrap) {
			t.Errorf("the service of %d leads to %+v", source, got)
		}
	}
	c.IE = false
	if got := boundary.After(c, event(api.EvInternal, api.FromTrap, 0, 1, 0)); !got.Saved || got.SavedIE {
		t.Errorf("with IE false, the service of TRAP leads to %+v", got)
	}
	// RIM reads the IE of before, if a TRAP has saved it in the state before.
	c.Saved, c.SavedIE = true, true
	if got := boundary.After(c, event(api.EvInstr, 0, 0x20)); got.Regs.A != 0x0D || got.Saved {
		t.Errorf("RIM after TRAP leads to %+v", got)
	}
}

// P27.1: the latches are those of the event, whatever they were before, and the instruction sees them.
func TestAfterLatches(t *testing.T) {
	is := func(n, i int) bool { return n>>i&1 == 1 }
	for n := range 256 {
		c := example(api.Chip8085)
		c.R75, c.Trap, c.Was75, c.WasTrap = is(n, 0), is(n, 1), is(n, 2), is(n, 3)
		e := event(api.EvInstr, 0, 0x00)
		e.R75, e.Trap, e.Was75, e.WasTrap = is(n, 4), is(n, 5), is(n, 6), is(n, 7)
		latches := func(c *api.CPU) { c.R75, c.Trap, c.Was75, c.WasTrap = e.R75, e.Trap, e.Was75, e.WasTrap }
		checkAfter(t, "nop", c, e, func(c *api.CPU) { latches(c); c.Regs.PC = 0x0101 })
		restarted := func(at uint16) func(c *api.CPU) {
			return func(c *api.CPU) { latches(c); c.Regs.PC, c.Regs.SP, c.IE = at, 0x6FFE, false }
		}
		for source, at := range map[int]uint16{api.From75: 0x3C, api.From65: 0x34, api.From55: 0x2C} {
			e.Kind, e.Source, e.Bytes = api.EvInternal, source, []byte{0, 1, 0}
			checkAfter(t, "restart", c, e, restarted(at))
		}
		e.Source = api.FromTrap
		checkAfter(t, "trap", c, e, func(c *api.CPU) { restarted(0x24)(c); c.Saved, c.SavedIE = true, true })
		e.Kind, e.Source, e.Bytes = api.EvInject, api.FromIntr, []byte{0}
		checkAfter(t, "injected nop", c, e, func(c *api.CPU) { latches(c); c.IE = false })
		e.Kind, e.Source, e.Bytes = api.EvInstr, 0, []byte{0x20}
		checkAfter(t, "rim", c, e, func(c *api.CPU) {
			latches(c)
			if c.Regs.A, c.Regs.PC = 0x0D, 0x0101; e.R75 {
				c.Regs.A = 0x4D
			}
		})
		c.Regs.A, e.Bytes = 0x10, []byte{0x30}
		checkAfter(t, "sim that clears RST 7.5", c, e, func(c *api.CPU) { latches(c); c.R75, c.Regs.PC = false, 0x0101 })
	}
}

// P27.1: RIM reads the levels of the event, and no other instruction does.
func TestAfterLevels(t *testing.T) {
	for a, l := range map[byte]api.Lines{
		0x0D: {Ready: true, Hold: true, Reset: true, Trap: true, R75: true, Intr: true},
		0x8D: {Sid: true}, 0x2D: {R65: true}, 0x1D: {R55: true}, 0xBD: {Sid: true, R65: true, R55: true},
	} {
		e := event(api.EvInstr, 0, 0x20)
		e.Lines = l
		checkAfter(t, "rim", example(api.Chip8085), e, func(c *api.CPU) { c.Regs.A, c.Regs.PC = a, 0x0101 })
		e.Kind, e.Source = api.EvInject, api.FromIntr
		checkAfter(t, "injected rim", example(api.Chip8085), e, func(c *api.CPU) { c.Regs.A, c.IE = a&^8, false })
		checkAfter(t, "nop of the 8080", example(api.Chip8080), e, func(c *api.CPU) { c.IE = false })
	}
}

// P27.1: RESET, which needs neither bytes nor latches.
func TestAfterReset(t *testing.T) {
	for _, chip := range both {
		c := example(chip)
		c.Delay, c.Halted, c.Trap, c.R75, c.WasTrap, c.Was75, c.Saved, c.SavedIE, c.SOD = true, true, true, true, true, true, true, true, true
		want := api.CPU{Chip: chip, Regs: c.Regs}
		if want.Regs.PC = 0; chip == api.Chip8085 {
			want.Mask = 7
		}
		e := event(api.EvReset, api.FromTrap, 0x3E, 5)
		e.R75, e.Trap, e.Was75, e.WasTrap, e.Lines.Reset = true, true, true, true, true
		for _, e := range []api.Event{e, event(api.EvReset, 0)} {
			if got := boundary.After(c, e); got != want {
				t.Errorf("After(%+v, %+v) = %+v, want %+v", c, e, got, want)
			}
		}
	}
}

// P27.1: every other kind leaves the state as it is, whatever the event has in its fields.
func TestAfterOtherKinds(t *testing.T) {
	m := newMaker()
	for _, kind := range eventKinds {
		if kind >= api.EvInstr && kind <= api.EvReset {
			continue
		}
		for range 500 {
			c, e := m.cpu(m.one(chips)), m.event()
			e.Kind = kind
			if got := boundary.After(c, e); got != c {
				t.Fatalf("After(%+v, %+v) = %+v", c, e, got)
			}
		}
	}
}

// P27.1 and R1: all opcodes on all chips, with all kinds and sources, and any other fields.
func TestAfterAnyEvents(t *testing.T) {
	m := newMaker()
	for _, chip := range chips {
		for op := range 256 {
			for _, source := range sources {
				c, e := m.cpu(chip), m.event()
				e.Kind, e.Source, e.Bytes = m.one(eventKinds[:5]), source, append([]byte{byte(op)}, m.bytes(m.IntN(7))...)
				if got, want := boundary.After(c, e), followed(c, e); got != want {
					t.Fatalf("After(%+v, %+v) = %+v, want %+v", c, e, got, want)
				}
			}
		}
	}
	for range 20000 {
		c, e := m.cpu(m.one(chips)), m.event()
		if got, want := boundary.After(c, e), followed(c, e); got != want {
			t.Fatalf("After(%+v, %+v) = %+v, want %+v", c, e, got, want)
		}
	}
}

package isa_test

import (
	"bytes"
	"slices"
	"testing"

	"tstate/api"
	"tstate/isa"
	"tstate/memory"
)

// example is a state in which the registers point to RAM of the memory map of parts.
func example(chip int) api.CPU {
	return api.CPU{Chip: chip, Regs: api.Regs{A: 0xA1, B: 0x12, C: 0x34, D: 0x1D, E: 0xFF, H: 0x30, L: 0x56, SP: 0x7000, PC: 0x0100}}
}

// P19.1: instructions from memory. The memory has the code at 0x0100, and the bytes 0x77 at 0x3056, 0x88 at 0x9000,
// 0x99 at 0x7000 and 0xAA at 0x7001.
func TestStepExamples(t *testing.T) {
	for _, x := range []struct {
		chip   int
		text   string
		ins    []byte
		pc, sp uint16
		a      byte
		puts   []api.Cell
		outs   []api.Output
		got    []byte
	}{
		{1, "nop", []byte{7}, 0x0101, 0x7000, 0xA1, nil, nil, []byte{0x00}},
		{1, "push b", nil, 0x0101, 0x6FFE, 0xA1, cells(0x6FFF, 0x12, 0x6FFE, 0x34), nil, []byte{0xC5, 0x12, 0x34}},
		{1, "push psw", nil, 0x0101, 0x6FFE, 0xA1, cells(0x6FFF, 0xA1, 0x6FFE, 0x02), nil, []byte{0xF5, 0xA1, 0x02}},
		{2, "push psw", nil, 0x0101, 0x6FFE, 0xA1, cells(0x6FFF, 0xA1), nil, []byte{0xF5, 0xA1, 0x00}},
		{1, "pop psw", nil, 0x0101, 0x7002, 0xAA, nil, nil, []byte{0xF1, 0x99, 0xAA}},
		{1, "xthl", nil, 0x0101, 0x7000, 0xA1, cells(0x7000, 0x56, 0x7001, 0x30), nil, []byte{0xE3, 0x99, 0xAA, 0x30, 0x56}},
		{2, "call 0x0234", nil, 0x0234, 0x6FFE, 0xA1, cells(0x6FFF, 0x01, 0x6FFE, 0x03), nil, []byte{0xCD, 0x34, 0x02, 0x01, 0x03}},
		{1, "ret", nil, 0xAA99, 0x7002, 0xA1, nil, nil, []byte{0xC9, 0x99, 0xAA}},
		{1, "jz 0x0234", nil, 0x0103, 0x7000, 0xA1, nil, nil, []byte{0xCA, 0x34, 0x02}},
		{2, "jz 0x0234", nil, 0x0103, 0x7000, 0xA1, nil, nil, []byte{0xCA, 0x34}},
		{1, "mov a,m", nil, 0x0101, 0x7000, 0x77, nil, nil, []byte{0x7E, 0x77}},
		{1, "mov m,a", nil, 0x0101, 0x7000, 0xA1, cells(0x3056, 0xA1), nil, []byte{0x77, 0xA1}},
		{1, "mvi m,0x00", nil, 0x0102, 0x7000, 0xA1, cells(0x3056, 0), nil, []byte{0x36, 0x00, 0x00}},
		{1, "inr m", nil, 0x0101, 0x7000, 0xA1, cells(0x3056, 0x78), nil, []byte{0x34, 0x77, 0x78}},
		{2, "dcr m", nil, 0x0101, 0x7000, 0xA1, cells(0x3056, 0x76), nil, []byte{0x35, 0x77, 0x76}},
		{1, "add m", nil, 0x0101, 0x7000, 0x18, nil, nil, []byte{0x86, 0x77}},
		{1, "lda 0x0101", nil, 0x0103, 0x7000, 0x01, nil, nil, []byte{0x3A, 0x01, 0x01, 0x01}},
		{1, "shld 0x2000", nil, 0x0103, 0x7000, 0xA1, cells(0x2000, 0x56, 0x2001, 0x30), nil, []byte{0x22, 0x00, 0x20, 0x56, 0x30}},
		{2, "shlx", nil, 0x0101, 0x7000, 0xA1, cells(0x1DFF, 0x56, 0x1E00, 0x30), nil, []byte{0xD9, 0x56, 0x30}},
		{2, "lhlx", nil, 0x0101, 0x7000, 0xA1, nil, nil, []byte{0xED, 0x00, 0x00}},
		{1, "dad b", nil, 0x0101, 0x7000, 0xA1, nil, nil, []byte{0x09, 0x00, 0x00}},
		{2, "ldhi 0x05", nil, 0x0102, 0x7000, 0xA1, nil, nil, []byte{0x28, 0x05, 0x00}},
		{2, "arhl", nil, 0x0101, 0x7000, 0xA1, nil, nil, []byte{0x10, 0x00}},
		{1, "hlt", []byte{7}, 0x0101, 0x7000, 0xA1, nil, nil, []byte{0x76, 0x00}},
		{2, "hlt", []byte{7}, 0x0101, 0x7000, 0xA1, nil, nil, []byte{0x76}},
		{1, "in 0x31", []byte{9, 8}, 0x0102, 0x7000, 9, nil, nil, []byte{0xDB, 0x31, 9}},
		{1, "in 0x31", nil, 0x0102, 0x7000, 0, nil, nil, []byte{0xDB, 0x31, 0}},
		{1, "out 0x31", []byte{9}, 0x0102, 0x7000, 0xA1, nil, []api.Output{{Port: 0x31, Val: 0xA1}}, []byte{0xD3, 0x31, 0xA1}},
		{2, "out 0xff", nil, 0x0102, 0x7000, 0xA1, nil, []api.Output{{Port: 0xFF, Val: 0xA1}}, []byte{0xD3, 0xFF, 0xA1}},
		{2, "out 0x00", nil, 0x0102, 0x7000, 0xA1, nil, []api.Output{{Port: 0x00, Val: 0xA1}}, []byte{0xD3, 0x00, 0xA1}},
		// Writes that change nothing, in ROM, in ROM that covers RAM and where there is nothing, and reads there.
		{1, "sta 0x0102", nil, 0x0103, 0x7000, 0xA1, nil, nil, []byte{0x32, 0x02, 0x01, 0xA1}},
		{1, "sta 0x0fff", nil, 0x0103, 0x7000, 0xA1, nil, nil, []byte{0x32, 0xFF, 0x0F, 0xA1}},
		{1, "sta 0x1000", nil, 0x0103, 0x7000, 0xA1, cells(0x1000, 0xA1), nil, []byte{0x32, 0x00, 0x10, 0xA1}},
		{1, "sta 0x9000", nil, 0x0103, 0x7000, 0xA1, nil, nil, []byte{0x32, 0x00, 0x90, 0xA1}},
		{1, "lda 0x9000", nil, 0x0103, 0x7000, 0xFF, nil, nil, []byte{0x3A, 0x00, 0x90, 0xFF}},
		{1, "lda 0x4000", nil, 0x0103, 0x7000, 0x00, nil, nil, []byte{0x3A, 0x00, 0x40, 0x00}},
		{2, "lhld 0x7fff", nil, 0x0103, 0x7000, 0xA1, nil, nil, []byte{0x2A, 0xFF, 0x7F, 0x00, 0xFF}},
	} {
		m := append(cells(0x3056, 0x77, 0x9000, 0x88, 0x7000, 0x99, 0x7001, 0xAA), memory.Load(0x0100, assemble(t, x.chip, x.text))...)
		after, changed, outs, got := isa.Step(example(x.chip), parts, m, api.FromNone, x.ins, api.Lines{})
		if after.Regs.PC != x.pc || after.Regs.SP != x.sp || after.Regs.A != x.a {
			t.Errorf("%s on the chip %d leads to %+v", x.text, x.chip, after)
		}
		if want := memory.Normalize(append(m, x.puts...)); !slices.Equal(changed, want) {
			t.Errorf("%s on the chip %d gives the memory %v, want %v", x.text, x.chip, changed, want)
		}
		if !slices.Equal(outs, x.outs) || !bytes.Equal(got, x.got) {
			t.Errorf("%s on the chip %d gives outs %v and got % x, want %v and % x", x.text, x.chip, outs, got, x.outs, x.got)
		}
	}
}

// P19.1: injected instructions, whose bytes come from outside; all else comes from memory.
func TestStepOfInjectedInstructions(t *testing.T) {
	m := cells(0x0100, 0x3E, 0x0101, 0x77, 0x3056, 0x66, 0x7000, 0x99, 0x7001, 0x88)
	for _, x := range []struct {
		chip   int
		ins    []byte
		pc, sp uint16
		a      byte
		puts   []api.Cell
		outs   []api.Output
		got    []byte
	}{
		{1, []byte{0xCD, 0x34, 0x02, 9}, 0x0234, 0x6FFE, 0xA1, cells(0x6FFF, 0x01), nil, []byte{0xCD, 0x34, 0x02, 0x01, 0x00}},
		{2, []byte{0xCD, 0x34}, 0x0034, 0x6FFE, 0xA1, cells(0x6FFF, 0x01), nil, []byte{0xCD, 0x34, 0x00, 0x01, 0x00}},
		{1, []byte{0xFF}, 0x0038, 0x6FFE, 0xA1, cells(0x6FFF, 0x01), nil, []byte{0xFF, 0x01, 0x00}},
		{1, []byte{0x3E, 0x12, 0x13}, 0x0100, 0x7000, 0x12, nil, nil, []byte{0x3E, 0x12}},
		{1, []byte{0x7E, 0x12}, 0x0100, 0x7000, 0x66, nil, nil, []byte{0x7E, 0x66}},
		{1, []byte{0x3A, 0x01, 0x01, 0x12}, 0x0100, 0x7000, 0x77, nil, nil, []byte{0x3A, 0x01, 0x01, 0x77}},
		{1, []byte{0x34, 0x12}, 0x0100, 0x7000, 0xA1, cells(0x3056, 0x67), nil, []byte{0x34, 0x66, 0x67}},
		{2, []byte{0xC9, 1, 2}, 0x8899, 0x7002, 0xA1, nil, nil, []byte{0xC9, 0x99, 0x88}},
		{1, []byte{0xDB, 4, 6, 8}, 0x0100, 0x7000, 6, nil, nil, []byte{0xDB, 4, 6}},
		{1, []byte{0xDB}, 0x0100, 0x7000, 0, nil, nil, []byte{0xDB, 0, 0}},
		{1, []byte{0xD3, 4, 6}, 0x0100, 0x7000, 0xA1, nil, []api.Output{{Port: 4, Val: 0xA1}}, []byte{0xD3, 4, 0xA1}},
		{1, []byte{0xCA, 4, 6, 8}, 0x0100, 0x7000, 0xA1, nil, nil, []byte{0xCA, 4, 6}},
		{2, []byte{0xCA, 4, 6, 8}, 0x0100, 0x7000, 0xA1, nil, nil, []byte{0xCA, 4}},
		{1, nil, 0x0100, 0x7000, 0xA1, nil, nil, []byte{0x00}},
		{1, []byte{}, 0x0100, 0x7000, 0xA1, nil, nil, []byte{0x00}},
		{1, []byte{0x76, 5}, 0x0100, 0x7000, 0xA1, nil, nil, []byte{0x76, 0x00}},
	} {
		after, changed, outs, got := isa.Step(example(x.chip), parts, m, api.FromIntr, x.ins, api.Lines{})
		if after.Regs.PC != x.pc || after.Regs.SP != x.sp || after.Regs.A != x.a {
			t.Errorf("% x on the chip %d leads to %+v", x.ins, x.chip, after)
		}
		if want := memory.Normalize(append(slices.Clip(m), x.puts...)); !slices.Equal(changed, want) {
			t.Errorf("% x on the chip %d gives the memory %v, want %v", x.ins, x.chip, changed, want)
		}
		if !slices.Equal(outs, x.outs) || !bytes.Equal(got, x.got) {
			t.Errorf("% x on the chip %d gives outs %v and got % x, want %v and % x", x.ins, x.chip, outs, got, x.outs, x.got)
		}
	}
}

// P19.1: internal restarts read nothing, neither from memory nor from outside.
func TestStepOfRestarts(t *testing.T) {
	m := cells(0x0100, 0xD3, 0x0101, 0x05)
	for source, pc := range map[int]uint16{api.FromTrap: 0x24, api.From75: 0x3C, api.From65: 0x34, api.From55: 0x2C} {
		for _, chip := range chips {
			after, changed, outs, got := isa.Step(example(chip), parts, m, source, []byte{0xDB, 5, 6}, api.Lines{})
			if after.Regs.PC != pc || after.Regs.SP != 0x6FFE || after.Regs.A != 0xA1 {
				t.Errorf("the source %d on the chip %d leads to %+v", source, chip, after)
			}
			if want := cells(0x0100, 0xD3, 0x0101, 0x05, 0x6FFF, 0x01); !slices.Equal(changed, want) {
				t.Errorf("the source %d on the chip %d gives the memory %v, want %v", source, chip, changed, want)
			}
			if len(outs) != 0 || !bytes.Equal(got, []byte{0x00, 0x01, 0x00}) {
				t.Errorf("the source %d on the chip %d gives outs %v and got % x", source, chip, outs, got)
			}
		}
	}
}

// P19.1: the service begins with irq.Accept, before the first machine cycle.
func TestStepAccepts(t *testing.T) {
	waiting := func(chip int) api.CPU {
		c := example(chip)
		c.IE, c.Delay, c.Halted, c.Trap, c.R75, c.Mask, c.SOD = true, true, true, true, true, 5, true
		return c
	}
	for _, x := range []struct {
		source int
		ins    []byte
		change func(c *api.CPU)
	}{
		{api.FromTrap, nil, func(c *api.CPU) {
			c.IE, c.Trap, c.Saved, c.SavedIE, c.Regs.PC, c.Regs.SP = false, false, true, true, 0x24, 0x6FFE
		}},
		{api.From75, nil, func(c *api.CPU) { c.IE, c.R75, c.Regs.PC, c.Regs.SP = false, false, 0x3C, 0x6FFE }},
		{api.From65, nil, func(c *api.CPU) { c.IE, c.Regs.PC, c.Regs.SP = false, 0x34, 0x6FFE }},
		{api.From55, nil, func(c *api.CPU) { c.IE, c.Regs.PC, c.Regs.SP = false, 0x2C, 0x6FFE }},
		{api.FromIntr, []byte{0x00}, func(c *api.CPU) { c.IE = false }},
		{api.FromIntr, []byte{0xFB}, func(c *api.CPU) { c.Delay = true }},
		{api.FromIntr, []byte{0x76}, func(c *api.CPU) { c.IE, c.Halted = false, true }},
		// RIM sees that the interrupts are not enabled any more.
		{api.FromIntr, []byte{0x20}, func(c *api.CPU) { c.IE, c.Regs.A = false, 0x45 }},
		{api.FromNone, nil, func(c *api.CPU) { c.Regs.PC = 0x0101 }},
		{6, nil, func(c *api.CPU) { c.Regs.PC = 0x0101 }},
	} {
		want := waiting(api.Chip8085)
		want.Delay, want.Halted = false, false
		x.change(&want)
		if after, _, _, _ := isa.Step(waiting(api.Chip8085), parts, nil, x.source, x.ins, api.Lines{}); after != want {
			t.Errorf("the source %d with % x leads to %+v, want %+v", x.source, x.ins, after, want)
		}
	}
}

// P19.1: RIM reads the levels, and nothing else does.
func TestStepPassesTheLines(t *testing.T) {
	l := api.Lines{Sid: true, R65: true, Trap: true, R75: true, Intr: true, Hold: true, Reset: true}
	after, _, _, _ := isa.Step(example(api.Chip8085), parts, cells(0x0100, 0x20), api.FromNone, nil, l)
	if after.Regs.A != 0xA0 {
		t.Errorf("RIM reads %#02x, want 0xa0", after.Regs.A)
	}
	for _, chip := range chips {
		for op := range 256 {
			if op == 0x20 {
				continue
			}
			with, _, _, _ := isa.Step(example(chip), parts, cells(0x0100, op), api.FromNone, nil, l)
			without, _, _, _ := isa.Step(example(chip), parts, cells(0x0100, op), api.FromNone, nil, api.Lines{})
			if with != without {
				t.Errorf("the opcode %#02x on the chip %d leads to %+v with levels, and to %+v without", op, chip, with, without)
			}
		}
	}
}

// P19.1: a whole service, step by step, with the byte that RIM reads after a TRAP.
func TestStepsOfAService(t *testing.T) {
	c := example(api.Chip8085)
	c.Trap = true
	m := append(cells(0x0024, 0x20, 0x0025, 0x20, 0x0026, 0xC9, 0x0101, 0x76), cells(0x0100, 0xFB)...)
	var a []byte
	for _, source := range []int{api.FromNone, api.FromTrap, api.FromNone, api.FromNone, api.FromNone, api.FromNone} {
		c, m, _, _ = isa.Step(c, parts, m, source, nil, api.Lines{})
		a = append(a, c.Regs.A)
	}
	if want := []byte{0xA1, 0xA1, 0x08, 0x00, 0x00, 0x00}; !bytes.Equal(a, want) {
		t.Errorf("A is % x, want % x", a, want)
	}
	if c.Regs.PC != 0x0102 || c.Regs.SP != 0x7000 || !c.Halted || c.IE {
		t.Errorf("the service ends in %+v", c)
	}
}

// P19.1: the memory is normal, also if nothing is written; the last cell with an address counts.
func TestStepMakesTheMemoryNormal(t *testing.T) {
	for _, x := range []struct {
		text    string
		m, want []api.Cell
	}{
		{"nop", nil, nil},
		{"nop", cells(5, 0), nil},
		{"nop", cells(9, 1, 5, 2, 9, 3, 6, 0), cells(5, 2, 9, 3)},
		{"out 0x05", cells(0x9000, 1, 0x8000, 2), cells(0x8000, 2, 0x9000, 1)},
		{"mov m,a", cells(0x3056, 5, 9, 1, 5, 2, 0x3056, 6), cells(5, 2, 9, 1, 0x3056, 0xA1)},
		{"sta 0x0500", cells(9, 1, 5, 2, 5, 4), cells(5, 4, 9, 1)},
	} {
		code := memory.Load(0x0100, assemble(t, api.Chip8080, x.text))
		want := memory.Normalize(append(x.want, code...))
		if _, changed, _, _ := isa.Step(example(api.Chip8080), parts, append(x.m, code...), api.FromNone, nil, api.Lines{}); !slices.Equal(changed, want) {
			t.Errorf("%s on %v gives the memory %v, want %v", x.text, x.m, changed, want)
		}
	}
}

// P19.1: instructions and words that go round the end of the memory.
func TestStepWrapsAround(t *testing.T) {
	c := example(api.Chip8080)
	c.Regs.PC, c.Regs.SP = 0xFFFE, 0x0001
	after, m, _, got := isa.Step(c, everywhere, cells(0xFFFE, 0xCD, 0xFFFF, 0x34, 0x0000, 0x12), api.FromNone, nil, api.Lines{})
	if after.Regs.PC != 0x1234 || after.Regs.SP != 0xFFFF || !bytes.Equal(got, []byte{0xCD, 0x34, 0x12, 0x00, 0x01}) {
		t.Errorf("the call leads to %+v, got % x", after, got)
	}
	if want := cells(0xFFFE, 0xCD, 0xFFFF, 0x01); !slices.Equal(m, want) {
		t.Errorf("the call gives the memory %v, want %v", m, want)
	}
	c.Regs.SP = 0xFFFF
	after, _, _, got = isa.Step(c, everywhere, cells(0xFFFE, 0xC9, 0xFFFF, 0x34, 0x0000, 0x12), api.FromNone, nil, api.Lines{})
	if after.Regs.PC != 0x1234 || after.Regs.SP != 0x0001 || !bytes.Equal(got, []byte{0xC9, 0x34, 0x12}) {
		t.Errorf("the return leads to %+v, got % x", after, got)
	}
}

// P19.1: an opcode that is read where there is nothing is 0xFF, a restart.
func TestStepWithoutRegions(t *testing.T) {
	after, m, outs, got := isa.Step(example(api.Chip8080), nil, cells(0x0100, 0x76), api.FromNone, []byte{1}, api.Lines{})
	if after.Regs.PC != 0x0038 || after.Regs.SP != 0x6FFE || !bytes.Equal(got, []byte{0xFF, 0x01, 0x01}) {
		t.Errorf("the step leads to %+v, got % x", after, got)
	}
	if !slices.Equal(m, cells(0x0100, 0x76)) || len(outs) != 0 {
		t.Errorf("the step gives the memory %v and outs %v", m, outs)
	}
}

// P19.1: all opcodes on the two chips with all sources, against the model.
func TestStepOfAllOpcodes(t *testing.T) {
	random := newMaker()
	for _, chip := range both {
		for op := range 256 {
			for _, source := range sources {
				c, code := random.cpu(chip), append([]byte{byte(op)}, random.bytes(2)...)
				checkStep(t, c, everywhere, random.cells(c, code), source, code[:random.IntN(4)], random.lines())
			}
		}
	}
}

// P19.1: all opcodes on all chips and memory maps, valid and not, against the model.
func TestStepOfAllChipsAndMaps(t *testing.T) {
	random := newMaker()
	for _, areas := range maps() {
		for _, chip := range chips {
			for op := 0; op < 256; op += 1 + random.IntN(3) {
				c, code := random.cpu(chip), append([]byte{byte(op)}, random.bytes(2)...)
				source := []int{api.FromNone, api.FromIntr, api.FromTrap}[random.IntN(3)]
				checkStep(t, c, areas, random.cells(c, code), source, random.bytes(random.IntN(5)), random.lines())
			}
		}
	}
}

// writes reports whether an opcode may write to memory.
func writes(chip int, op byte) bool {
	switch op & 0xC7 {
	case 0xC4, 0xC5, 0xC7: // calls, pushes and restarts
		later := chip == api.Chip8085 && (op == 0xDD || op == 0xED || op == 0xFD)
		return !later
	}
	switch op {
	case 0x02, 0x12, 0x22, 0x32, 0x34, 0x35, 0x36, 0x70, 0x71, 0x72, 0x73, 0x74, 0x75, 0x77, 0xE3:
		return true
	case 0xCB, 0xD9:
		return chip == api.Chip8085
	}
	return false
}

// P19.3: a step without ports, writes and restarts changes no memory, and puts out nothing.
func TestStepWithoutWrites(t *testing.T) {
	random := newMaker()
	for _, chip := range both {
		for op := range 256 {
			for range 5 {
				c, code := random.cpu(chip), append([]byte{byte(op)}, random.bytes(2)...)
				m := memory.Normalize(random.cells(c, code))
				_, changed, outs, _ := isa.Step(c, everywhere, m, api.FromNone, nil, random.lines())
				if !writes(chip, byte(op)) && !slices.Equal(changed, m) {
					t.Errorf("the opcode %#02x on the chip %d changes %v to %v", op, chip, m, changed)
				}
				if (op == 0xD3) != (len(outs) == 1) {
					t.Errorf("the opcode %#02x on the chip %d puts out %v", op, chip, outs)
				}
			}
		}
	}
}

// P19.1 and R2: the arguments stay as they are, also in the spare capacity, whatever happens to the results.
func TestStepLeavesItsArguments(t *testing.T) {
	for _, text := range []string{"nop", "push b", "mov m,a", "mvi m,0x00", "in 0x05", "out 0x05", "sta 0x9000", "sta 0x4000"} {
		for _, source := range []int{api.FromNone, api.FromIntr, api.FromTrap} {
			code := assemble(t, api.Chip8080, text)
			allCells := append(memory.Load(0x0100, code), cells(0x3056, 5, 0x5000, 6, 0x6FFE, 7, 0x6FFF, 8)...)
			allAreas, allIns := slices.Clone(parts), append(slices.Clone(code), 1, 2, 3)
			keptCells, keptAreas, keptIns := slices.Clone(allCells), slices.Clone(allAreas), slices.Clone(allIns)
			_, m, outs, got := isa.Step(example(api.Chip8080), allAreas[:5], allCells[:len(allCells)-2], source, allIns[:len(code)], api.Lines{})
			overwrite(m, outs, got)
			if !slices.Equal(allCells, keptCells) || !slices.Equal(allAreas, keptAreas) || !bytes.Equal(allIns, keptIns) {
				t.Errorf("%s with the source %d changes an argument: %v, %v, % x", text, source, allCells, allAreas, allIns)
			}
		}
	}
}

// overwrite changes everything that belongs to results.
func overwrite(m []api.Cell, outs []api.Output, got []byte) {
	for i := range m[:cap(m)] {
		m[:cap(m)][i] = api.Cell{At: 0x5555, Val: 0x55}
	}
	for i := range outs[:cap(outs)] {
		outs[:cap(outs)][i] = api.Output{Port: 0x55, Val: 0x55}
	}
	for i := range got[:cap(got)] {
		got[:cap(got)][i] = 0x55
	}
}

// P19.1 and R2: the results stay as they are if the arguments change.
func TestStepKeepsNoArguments(t *testing.T) {
	areas, m, ins := slices.Clone(parts), cells(0x0100, 0xC5, 0x4000, 7), []byte{0xDB, 5, 6}
	for _, source := range []int{api.FromNone, api.FromIntr, api.FromTrap} {
		_, changed, _, got := isa.Step(example(api.Chip8080), areas, m, source, ins, api.Lines{})
		keptCells, keptGot := slices.Clone(changed), slices.Clone(got)
		for i := range m {
			m[i].Val++
		}
		for i := range ins {
			ins[i]++
		}
		if !slices.Equal(changed, keptCells) || !bytes.Equal(got, keptGot) {
			t.Errorf("with the source %d the results turn into %v and % x", source, changed, got)
		}
	}
}

package micro_test

import (
	"slices"
	"testing"

	"tstate/alu"
	"tstate/api"
	"tstate/count"
	"tstate/decimal"
	"tstate/micro"
	"tstate/rotate"
	"tstate/serial"
	"tstate/wide"
)

// finished is a model of Finish by the bits of the opcode. At least five bytes are in got.
func finished(c api.CPU, source int, got []byte, l api.Lines) api.CPU {
	if at, ok := map[int]uint16{api.FromTrap: 0x24, api.From75: 0x3C, api.From65: 0x34, api.From55: 0x2C}[source]; ok {
		c.Regs.PC, c.Regs.SP = at, c.Regs.SP-2
		return c
	}
	op := got[0]
	before := c
	c.Regs.PC = uint16(behind(c, source, op))
	c.Delay, c.Halted = op == 0xFB, op == 0x76
	if c.Chip == api.Chip8085 && finish8085(&c, before, got, l) {
		return c
	}
	switch op / 64 {
	case 0:
		finishFirstQuarter(&c, got)
	case 1:
		if op != 0x76 {
			setRegister(&c.Regs, op/8%8, operand(c.Regs, op%8, got))
		}
	case 2:
		c.Regs.A, c.Regs.F = alu.Do(c.Chip, int(op/8%8), c.Regs.A, operand(c.Regs, op%8, got), c.Regs.F)
	case 3:
		finishLastQuarter(&c, before, got)
	}
	return c
}

// place returns the place of a register, or nil for the cell M.
func place(r *api.Regs, n byte) *byte {
	return [8]*byte{&r.B, &r.C, &r.D, &r.E, &r.H, &r.L, nil, &r.A}[n]
}

// operand returns a register, or the byte that was read from the cell M.
func operand(r api.Regs, n byte, got []byte) byte {
	if n == 6 {
		return got[1]
	}
	return *place(&r, n)
}

func setRegister(r *api.Regs, n, v byte) {
	if n != 6 {
		*place(r, n) = v
	}
}

// pairOf returns a pair, of which the last one is SP.
func pairOf(r api.Regs, n byte) uint16 {
	return [4]uint16{join(r.B, r.C), join(r.D, r.E), join(r.H, r.L), r.SP}[n]
}

func setPairOf(r *api.Regs, n byte, v uint16) {
	if n == 3 {
		r.SP = v
		return
	}
	*place(r, 2*n), *place(r, 2*n+1) = byte(v/256), byte(v%256)
}

func join(high, low byte) uint16 { return uint16(high)*256 + uint16(low) }

// finishFirstQuarter does what the opcodes below 0x40 do on the 8080.
func finishFirstQuarter(c *api.CPU, got []byte) {
	r, op := &c.Regs, got[0]
	y, p := op/8, op/16
	switch op % 16 {
	case 0x1:
		setPairOf(r, p, join(got[2], got[1]))
	case 0x3:
		v, f := count.Inx(c.Chip, pairOf(*r, p), r.F)
		r.F = f
		setPairOf(r, p, v)
	case 0xB:
		v, f := count.Dcx(c.Chip, pairOf(*r, p), r.F)
		r.F = f
		setPairOf(r, p, v)
	case 0x9:
		v, f := wide.Dad(c.Chip, pairOf(*r, 2), pairOf(*r, p), r.F)
		r.F = f
		setPairOf(r, 2, v)
	case 0x4, 0xC:
		v, f := count.Inr(c.Chip, operand(*r, y, got), r.F)
		r.F = f
		setRegister(r, y, v)
	case 0x5, 0xD:
		v, f := count.Dcr(c.Chip, operand(*r, y, got), r.F)
		r.F = f
		setRegister(r, y, v)
	case 0x6, 0xE:
		setRegister(r, y, got[1])
	case 0x7, 0xF:
		finishOnAccumulator(c, op)
	}
	switch op {
	case 0x0A, 0x1A:
		r.A = got[1]
	case 0x2A:
		r.L, r.H = got[3], got[4]
	case 0x3A:
		r.A = got[3]
	}
}

func finishOnAccumulator(c *api.CPU, op byte) {
	r := &c.Regs
	switch op {
	case 0x07, 0x0F, 0x17, 0x1F:
		r.A, r.F.CY = rotate.Byte(int(op/8), r.A, r.F.CY)
	case 0x27:
		r.A, r.F = decimal.Daa(c.Chip, r.A, r.F)
	case 0x2F:
		r.A ^= 0xFF
	case 0x37:
		r.F.CY = true
	case 0x3F:
		r.F.CY = !r.F.CY
	}
}

// finishLastQuarter does what the opcodes from 0xC0 on do on the 8080.
func finishLastQuarter(c *api.CPU, before api.CPU, got []byte) {
	r, op := &c.Regs, got[0]
	word := join(got[2], got[1])
	switch op % 8 {
	case 0:
		if holds(before, op) {
			r.PC, r.SP = word, r.SP+2
		}
	case 2:
		if holds(before, op) {
			r.PC = word
		}
	case 4:
		if holds(before, op) {
			r.PC, r.SP = word, r.SP-2
		}
	case 6:
		r.A, r.F = alu.Do(c.Chip, int(op/8%8), r.A, got[1], r.F)
	case 7:
		r.PC, r.SP = uint16(op%64-7), r.SP-2
	}
	switch op {
	case 0xC1, 0xD1, 0xE1:
		r.SP += 2
		setPairOf(r, op/16%4, word)
	case 0xF1:
		b := got[1]
		later := c.Chip == api.Chip8085
		r.SP += 2
		r.A = got[2]
		r.F = api.Flags{S: b/128 == 1, Z: b/64%2 == 1, K: later && b/32%2 == 1, AC: b/16%2 == 1, P: b/4%2 == 1, V: later && b/2%2 == 1, CY: b%2 == 1}
	case 0xC5, 0xD5, 0xE5, 0xF5:
		r.SP -= 2
	case 0xC3, 0xCB:
		r.PC = word
	case 0xC9, 0xD9:
		r.PC, r.SP = word, r.SP+2
	case 0xCD, 0xDD, 0xED, 0xFD:
		r.PC, r.SP = word, r.SP-2
	case 0xDB:
		r.A = got[2]
	case 0xE3:
		r.L, r.H = got[1], got[2]
	case 0xE9:
		r.PC = pairOf(*r, 2)
	case 0xEB:
		r.D, r.E, r.H, r.L = r.H, r.L, r.D, r.E
	case 0xF9:
		r.SP = pairOf(*r, 2)
	case 0xF3:
		c.IE = false
	case 0xFB:
		c.IE = true
	}
}

// finish8085 does what the opcodes do in which the 8085 differs, and reports whether it is one of them.
func finish8085(c *api.CPU, before api.CPU, got []byte, l api.Lines) bool {
	r := &c.Regs
	switch got[0] {
	case 0x08:
		v, f := wide.Dsub(pairOf(*r, 2), pairOf(*r, 0))
		r.F = f
		setPairOf(r, 2, v)
	case 0x10:
		v, carry := rotate.Arhl(pairOf(*r, 2))
		r.F.CY = carry
		setPairOf(r, 2, v)
	case 0x18:
		v, out, over := rotate.Rdel(pairOf(*r, 1), r.F.CY)
		r.F.CY, r.F.V = out, over
		setPairOf(r, 1, v)
	case 0x20:
		a, after := serial.Rim(*c, l)
		*c = after
		c.Regs.A = a
	case 0x28:
		setPairOf(r, 1, pairOf(*r, 2)+uint16(got[1]))
	case 0x30:
		*c = serial.Sim(*c, r.A)
	case 0x38:
		setPairOf(r, 1, r.SP+uint16(got[1]))
	case 0xCB:
		if holds(before, 0xCB) {
			r.PC, r.SP = 0x40, r.SP-2
		}
	case 0xD9:
	case 0xDD, 0xFD:
		if holds(before, got[0]) {
			r.PC = join(got[2], got[1])
		}
	case 0xED:
		r.L, r.H = got[1], got[2]
	default:
		return false
	}
	return true
}

func checkFinish(t *testing.T, c api.CPU, source int, got []byte, l api.Lines, want api.CPU) {
	t.Helper()
	if after := micro.Finish(c, source, got, l); after != want {
		t.Fatalf("Finish(%+v, %d, % x, %+v) = %+v, want %+v", c, source, got, l, after, want)
	}
}

// P16.3: an instruction of each kind, spelled out: the registers after it, from those of example.
func TestFinishExamples(t *testing.T) {
	for _, x := range []struct {
		chip   int
		f      api.Flags
		got    []byte
		length uint16
		change func(c *api.CPU)
	}{
		{1, api.Flags{}, []byte{0x00}, 1, func(c *api.CPU) {}}, {1, api.Flags{}, nil, 1, func(c *api.CPU) {}}, {1, api.Flags{}, []byte{0x20}, 1, func(c *api.CPU) {}},
		{1, api.Flags{}, []byte{0x78}, 1, func(c *api.CPU) { c.Regs.A = 0x1B }}, {1, api.Flags{}, []byte{0x7E, 9}, 1, func(c *api.CPU) { c.Regs.A = 9 }},
		{1, api.Flags{}, []byte{0x70, 9}, 1, func(c *api.CPU) {}}, {1, api.Flags{}, []byte{0x66, 9}, 1, func(c *api.CPU) { c.Regs.H = 9 }},
		{1, api.Flags{}, []byte{0x0E, 9}, 2, func(c *api.CPU) { c.Regs.C = 9 }}, {1, api.Flags{}, []byte{0x36, 9, 7}, 2, func(c *api.CPU) {}},
		{1, api.Flags{}, []byte{0x11, 8, 9}, 3, func(c *api.CPU) { c.Regs.D, c.Regs.E = 9, 8 }}, {1, api.Flags{}, []byte{0x31, 8, 9}, 3, func(c *api.CPU) { c.Regs.SP = 0x0908 }},
		{1, api.Flags{}, []byte{0x0A, 9}, 1, func(c *api.CPU) { c.Regs.A = 9 }}, {1, api.Flags{}, []byte{0x3A, 1, 2, 9}, 3, func(c *api.CPU) { c.Regs.A = 9 }},
		{1, api.Flags{}, []byte{0x2A, 1, 2, 8, 9}, 3, func(c *api.CPU) { c.Regs.L, c.Regs.H = 8, 9 }}, {2, api.Flags{}, []byte{0xED, 8, 9}, 1, func(c *api.CPU) { c.Regs.L, c.Regs.H = 8, 9 }},
		{1, api.Flags{}, []byte{0xDB, 1, 9}, 2, func(c *api.CPU) { c.Regs.A = 9 }}, {1, api.Flags{}, []byte{0xD3, 1, 9}, 2, func(c *api.CPU) {}},
		{1, api.Flags{}, []byte{0x32, 1, 2, 9}, 3, func(c *api.CPU) {}}, {1, api.Flags{}, []byte{0x22, 1, 2, 8, 9}, 3, func(c *api.CPU) {}},
		{1, api.Flags{}, []byte{0x02, 9}, 1, func(c *api.CPU) {}}, {2, api.Flags{}, []byte{0xD9, 8, 9}, 1, func(c *api.CPU) {}},
		{1, api.Flags{}, []byte{0xEB}, 1, func(c *api.CPU) { c.Regs.D, c.Regs.E, c.Regs.H, c.Regs.L = 0x2A, 0x2B, 0x1D, 0xFF }},
		{1, api.Flags{}, []byte{0xE3, 8, 9, 7, 7}, 1, func(c *api.CPU) { c.Regs.L, c.Regs.H = 8, 9 }},
		{1, api.Flags{}, []byte{0x80}, 1, func(c *api.CPU) { c.Regs.A, c.Regs.F = 0x35, api.Flags{AC: true, P: true} }},
		{1, api.Flags{CY: true}, []byte{0x8E, 0xE5}, 1, func(c *api.CPU) {
			c.Regs.A, c.Regs.F = 0x00, api.Flags{Z: true, AC: true, P: true, CY: true}
		}},
		{1, api.Flags{}, []byte{0xD6, 0x1B}, 2, func(c *api.CPU) { c.Regs.A, c.Regs.F = 0xFF, api.Flags{S: true, P: true, CY: true} }},
		{1, api.Flags{CY: true}, []byte{0xFE, 0x1A}, 2, func(c *api.CPU) { c.Regs.F = api.Flags{Z: true, AC: true, P: true} }},
		{1, api.Flags{CY: true}, []byte{0x1C}, 1, func(c *api.CPU) { c.Regs.E, c.Regs.F = 0, api.Flags{Z: true, AC: true, P: true, CY: true} }},
		{1, api.Flags{}, []byte{0x34, 0xFF, 7}, 1, func(c *api.CPU) { c.Regs.F = api.Flags{Z: true, AC: true, P: true} }},
		{1, api.Flags{}, []byte{0x35, 0x00, 7}, 1, func(c *api.CPU) { c.Regs.F = api.Flags{S: true, P: true} }},
		{1, api.Flags{}, []byte{0x13}, 1, func(c *api.CPU) { c.Regs.D, c.Regs.E = 0x1E, 0x00 }}, {1, api.Flags{}, []byte{0x3B}, 1, func(c *api.CPU) { c.Regs.SP = 0x2FFF }},
		{2, api.Flags{K: true}, []byte{0x33}, 1, func(c *api.CPU) { c.Regs.SP, c.Regs.F = 0x3001, api.Flags{} }},
		{1, api.Flags{CY: true}, []byte{0x39}, 1, func(c *api.CPU) { c.Regs.H, c.Regs.F = 0x5A, api.Flags{} }},
		{1, api.Flags{AC: true}, []byte{0x27}, 1, func(c *api.CPU) { c.Regs.A, c.Regs.F = 0x20, api.Flags{AC: true} }},
		{1, api.Flags{CY: true}, []byte{0x2F}, 1, func(c *api.CPU) { c.Regs.A = 0xE5 }}, {1, api.Flags{Z: true}, []byte{0x37}, 1, func(c *api.CPU) { c.Regs.F.CY = true }},
		{1, api.Flags{}, []byte{0x3F}, 1, func(c *api.CPU) { c.Regs.F.CY = true }}, {1, api.Flags{CY: true}, []byte{0x3F}, 1, func(c *api.CPU) { c.Regs.F.CY = false }},
		{1, api.Flags{}, []byte{0x0F}, 1, func(c *api.CPU) { c.Regs.A = 0x0D }}, {1, api.Flags{CY: true}, []byte{0x17}, 1, func(c *api.CPU) { c.Regs.A, c.Regs.F = 0x35, api.Flags{} }},
		{1, api.Flags{}, []byte{0xC3, 8, 9}, 3, func(c *api.CPU) { c.Regs.PC = 0x0908 }}, {1, api.Flags{}, []byte{0xC2, 8, 9}, 3, func(c *api.CPU) { c.Regs.PC = 0x0908 }},
		{1, api.Flags{}, []byte{0xCA, 8, 9}, 3, func(c *api.CPU) {}}, {2, api.Flags{}, []byte{0xCA, 8}, 3, func(c *api.CPU) {}},
		{1, api.Flags{}, []byte{0xCD, 8, 9, 7, 7}, 3, func(c *api.CPU) { c.Regs.PC, c.Regs.SP = 0x0908, 0x2FFE }}, {2, api.Flags{}, []byte{0xCC, 8}, 3, func(c *api.CPU) {}},
		{1, api.Flags{}, []byte{0xC9, 8, 9}, 1, func(c *api.CPU) { c.Regs.PC, c.Regs.SP = 0x0908, 0x3002 }}, {1, api.Flags{}, []byte{0xC8}, 1, func(c *api.CPU) {}},
		{1, api.Flags{}, []byte{0xC7, 8, 9}, 1, func(c *api.CPU) { c.Regs.PC, c.Regs.SP = 0x00, 0x2FFE }}, {1, api.Flags{}, []byte{0xFF, 8, 9}, 1, func(c *api.CPU) { c.Regs.PC, c.Regs.SP = 0x38, 0x2FFE }},
		{2, api.Flags{V: true}, []byte{0xCB, 8, 9}, 1, func(c *api.CPU) { c.Regs.PC, c.Regs.SP = 0x40, 0x2FFE }}, {2, api.Flags{}, []byte{0xCB}, 1, func(c *api.CPU) {}},
		{2, api.Flags{}, []byte{0xDD, 8, 9}, 3, func(c *api.CPU) { c.Regs.PC = 0x0908 }}, {2, api.Flags{K: true}, []byte{0xDD, 8}, 3, func(c *api.CPU) {}},
		{1, api.Flags{}, []byte{0xE9}, 1, func(c *api.CPU) { c.Regs.PC = 0x2A2B }}, {1, api.Flags{}, []byte{0xF9}, 1, func(c *api.CPU) { c.Regs.SP = 0x2A2B }},
		{1, api.Flags{}, []byte{0xF5, 8, 9}, 1, func(c *api.CPU) { c.Regs.SP = 0x2FFE }}, {1, api.Flags{}, []byte{0xE1, 8, 9}, 1, func(c *api.CPU) { c.Regs.H, c.Regs.L, c.Regs.SP = 9, 8, 0x3002 }},
		{1, api.Flags{}, []byte{0xF1, 0xFF, 9}, 1, func(c *api.CPU) {
			c.Regs.A, c.Regs.F, c.Regs.SP = 9, api.Flags{S: true, Z: true, AC: true, P: true, CY: true}, 0x3002
		}},
		{2, api.Flags{}, []byte{0xF1, 0x22, 9}, 1, func(c *api.CPU) { c.Regs.A, c.Regs.F, c.Regs.SP = 9, api.Flags{K: true, V: true}, 0x3002 }},
		{1, api.Flags{}, []byte{0xFB}, 1, func(c *api.CPU) { c.IE, c.Delay = true, true }}, {1, api.Flags{}, []byte{0xF3}, 1, func(c *api.CPU) {}},
		{1, api.Flags{}, []byte{0x76, 7}, 1, func(c *api.CPU) { c.Halted = true }}, {2, api.Flags{}, []byte{0x76}, 1, func(c *api.CPU) { c.Halted = true }},
		{2, api.Flags{}, []byte{0x20}, 1, func(c *api.CPU) { c.Regs.A = 0xA5 }}, {2, api.Flags{}, []byte{0x30}, 1, func(c *api.CPU) { c.Mask = 2 }},
		{2, api.Flags{}, []byte{0x08, 7, 7}, 1, func(c *api.CPU) { c.Regs.H, c.Regs.L, c.Regs.F = 0x0F, 0x0F, api.Flags{P: true} }},
		{2, api.Flags{Z: true}, []byte{0x10, 7}, 1, func(c *api.CPU) { c.Regs.H, c.Regs.L, c.Regs.F = 0x15, 0x15, api.Flags{Z: true, CY: true} }},
		{2, api.Flags{CY: true, V: true}, []byte{0x18, 7, 7}, 1, func(c *api.CPU) { c.Regs.D, c.Regs.E, c.Regs.F = 0x3B, 0xFF, api.Flags{} }},
		{2, api.Flags{CY: true}, []byte{0x28, 0xFF, 7}, 2, func(c *api.CPU) { c.Regs.D, c.Regs.E = 0x2B, 0x2A }},
		{2, api.Flags{CY: true}, []byte{0x38, 0xFF, 7}, 2, func(c *api.CPU) { c.Regs.D, c.Regs.E = 0x30, 0xFF }},
	} {
		for _, source := range []int{api.FromNone, api.FromIntr} {
			c := example(x.chip, x.f)
			c.Delay, c.Halted, c.Mask = true, true, 5
			want := c
			want.Delay, want.Halted = false, false
			if source != api.FromIntr {
				want.Regs.PC += x.length
			}
			x.change(&want)
			checkFinish(t, c, source, x.got, api.Lines{Sid: true, R65: true}, want)
		}
	}
}

// P16.3: all opcodes with all flags, from memory and injected, on the two chips. The bytes that were written are any.
func TestFinishOfAllOpcodesAndFlags(t *testing.T) {
	m := newMaker()
	for _, chip := range both {
		for op := range 256 {
			for n := range 128 {
				for _, source := range []int{api.FromNone, api.FromIntr} {
					c, got, l := m.cpu(chip), m.bytes(byte(op), 4), m.lines()
					c.Regs.F = flagsOf(n)
					checkFinish(t, c, source, got, l, finished(c, source, got, l))
				}
			}
		}
	}
}

// P16.3: all opcodes on all chips, with all sources and numbers that are no sources.
func TestFinishOfAllChipsAndSources(t *testing.T) {
	m := newMaker()
	for _, chip := range chips {
		for op := range 256 {
			for _, source := range append(append([]int{api.FromIntr}, restarts...), fromMemory...) {
				c, got, l := m.cpu(chip), m.bytes(byte(op), 4), m.lines()
				checkFinish(t, c, source, got, l, finished(c, source, got, l))
			}
		}
	}
}

// P16.3: missing bytes count as 0, also if others lie in the spare capacity, and superfluous bytes do not matter.
func TestFinishOfMissingAndSuperfluousBytes(t *testing.T) {
	m := newMaker()
	for _, chip := range both {
		for op := range 256 {
			for _, source := range []int{api.FromNone, api.FromIntr, api.FromTrap} {
				for n := range 12 {
					c, l := m.cpu(chip), m.lines()
					got := m.bytes(byte(op), 12)[:n]
					padded := append(slices.Clone(got), 0, 0, 0, 0, 0)
					checkFinish(t, c, source, got, l, finished(c, source, padded, l))
				}
			}
		}
	}
}

// P16.3: the bytes that were written, and those without data, do not matter.
func TestFinishOfWrittenBytes(t *testing.T) {
	m := newMaker()
	for _, chip := range both {
		for op := range 256 {
			for range 16 {
				for _, source := range []int{api.FromNone, api.FromIntr, api.FromTrap} {
					c, got, l := m.cpu(chip), m.bytes(byte(op), 4), m.lines()
					want := micro.Finish(c, source, got, l)
					for n, x := range cycles(c, source, got) {
						switch x.Kind {
						case api.CycWrite, api.CycPush, api.CycOut, api.CycIdle, api.CycHalt, api.CycRst:
							got[n] = m.byte()
						}
					}
					checkFinish(t, c, source, got, l, want)
				}
			}
		}
	}
}

// P16.3: the levels matter for RIM alone, and there for bits 7, 5 and 4.
func TestFinishWithLines(t *testing.T) {
	m := newMaker()
	for n := range 1 << 9 {
		is := func(i int) bool { return n>>i&1 == 1 }
		l := api.Lines{Ready: is(0), Hold: is(1), Reset: is(2), Sid: is(3), Trap: is(4), R75: is(5), R65: is(6), R55: is(7), Intr: is(8)}
		for op := range 256 {
			for _, chip := range both {
				c, got := m.cpu(chip), m.bytes(byte(op), 4)
				want := micro.Finish(c, api.FromNone, got, api.Lines{})
				if chip == api.Chip8085 && op == 0x20 {
					for bit, level := range map[byte]bool{0x80: l.Sid, 0x20: l.R65, 0x10: l.R55} {
						if level {
							want.Regs.A += bit
						}
					}
				}
				checkFinish(t, c, api.FromNone, got, l, want)
			}
		}
	}
}

// P16.3: SIM with all bytes.
func TestFinishOfSim(t *testing.T) {
	m := newMaker()
	for a := range 256 {
		for range 8 {
			c := m.cpu(api.Chip8085)
			c.Regs.A = byte(a)
			want := c
			want.Delay, want.Halted = false, false
			want.Regs.PC++
			if a/64%2 == 1 {
				want.SOD = a >= 128
			}
			if a/16%2 == 1 {
				want.R75 = false
			}
			if a/8%2 == 1 {
				want.Mask = byte(a % 8)
			}
			checkFinish(t, c, api.FromNone, []byte{0x30}, api.Lines{}, want)
		}
	}
}

// P16.3: after an internal restart nothing but PC and SP has changed, whatever the bytes are.
func TestFinishOfRestarts(t *testing.T) {
	m := newMaker()
	vectors := map[int]uint16{api.FromTrap: 0x24, api.From75: 0x3C, api.From65: 0x34, api.From55: 0x2C}
	for _, chip := range chips {
		for _, source := range restarts {
			for op := range 256 {
				c := m.cpu(chip)
				want := c
				want.Regs.PC, want.Regs.SP = vectors[source], c.Regs.SP-2
				checkFinish(t, c, source, m.bytes(byte(op), 4), m.lines(), want)
				checkFinish(t, c, source, nil, m.lines(), want)
			}
		}
	}
}

// P16.3: PC and SP wrap around.
func TestFinishWrapsAround(t *testing.T) {
	for _, x := range []struct {
		got            []byte
		pc, sp         uint16
		pcAfter, after uint16
	}{
		{[]byte{0x00}, 0xFFFF, 0x0000, 0x0000, 0x0000}, {[]byte{0x3E, 0x1A}, 0xFFFF, 0x0000, 0x0001, 0x0000},
		{[]byte{0x32}, 0xFFFF, 0x0000, 0x0002, 0x0000}, {[]byte{0x32}, 0xFFFD, 0x0000, 0x0000, 0x0000},
		{[]byte{0xCD, 0xFF, 0xFF}, 0x1000, 0x0001, 0xFFFF, 0xFFFF}, {[]byte{0xC9, 0xFF, 0xFF}, 0x1000, 0xFFFF, 0xFFFF, 0x0001},
		{[]byte{0xFF}, 0x1000, 0x0000, 0x0038, 0xFFFE}, {[]byte{0xC5}, 0xFFFF, 0x0001, 0x0000, 0xFFFF},
		{[]byte{0xC1, 0x1C, 0x1B}, 0xFFFF, 0xFFFE, 0x0000, 0x0000},
	} {
		for _, chip := range both {
			c := example(chip, api.Flags{})
			c.Regs.PC, c.Regs.SP = x.pc, x.sp
			want := c
			want.Regs.PC, want.Regs.SP = x.pcAfter, x.after
			checkFinish(t, c, api.FromNone, x.got, api.Lines{}, want)
		}
	}
}

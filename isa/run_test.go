package isa_test

import (
	"math"
	"math/bits"
	"slices"
	"testing"

	"tstate/api"
	"tstate/isa"
	"tstate/memory"
)

// product is a program that multiplies two bytes from the ports 1 and 2: it stores the word at 0x1800 and puts it out.
func product(t *testing.T, chip int) []api.Cell {
	t.Helper()
	program := memory.Load(0x0000, assemble(t, chip,
		"lxi sp,0x2000", "in 0x01", "mov c,a", "in 0x02", "call 0x0020", "shld 0x1800",
		"mov a,h", "out 0x10", "mov a,l", "out 0x11", "hlt"))
	return append(program, memory.Load(0x0020, assemble(t, chip,
		"lxi h,0x0000", "mvi b,0x00", "mvi d,0x08",
		"dad h", "ral", "jnc 0x002d", "dad b", "dcr d", "jnz 0x0027", "ret"))...)
}

// P19.2: a program with ports, memory and a subroutine.
func TestRunOfAProduct(t *testing.T) {
	for _, chip := range []int{api.Chip8080, api.Chip8085, 0} {
		for _, x := range [][2]byte{{0, 0}, {1, 1}, {7, 9}, {16, 16}, {0xFF, 0xFF}, {0x80, 2}, {0xC3, 0x5A}, {3, 0}, {0, 200}} {
			m := product(t, chip)
			c := api.CPU{Chip: chip}
			after, changed, outs, used := isa.Run(c, parts, m, x[:], 1000)
			want := int(x[0]) * int(x[1])
			if !slices.Equal(outs, []api.Output{{Port: 0x10, Val: byte(want >> 8)}, {Port: 0x11, Val: byte(want)}}) {
				t.Errorf("%v on the chip %d puts out %v, want %#04x", x, chip, outs, want)
			}
			written := cells(0x1800, want%256, 0x1801, want/256, 0x1FFE, 0x0B)
			if want := memory.Normalize(append(m, written...)); !slices.Equal(changed, want) {
				t.Errorf("%v on the chip %d gives the memory %v, want %v", x, chip, changed, want)
			}
			if want := 55 + bits.OnesCount8(x[1]); used != want || !after.Halted || after.Regs.PC != 0x15 || after.Regs.SP != 0x2000 {
				t.Errorf("%v on the chip %d takes %d instructions, want %d, and leads to %+v", x, chip, used, want, after)
			}
		}
	}
}

// P19.2: a program that adds numbers of eight decimal digits.
func TestRunOfADecimalSum(t *testing.T) {
	for _, chip := range both {
		program := memory.Load(0x0000, assemble(t, chip,
			"lxi h,0x1000", "lxi d,0x1100", "mvi b,0x04", "xra a",
			"ldax d", "adc m", "daa", "mov m,a", "inx h", "inx d", "dcr b", "jnz 0x0009", "hlt"))
		numbers := cells(0x1000, 0x89, 0x1001, 0x67, 0x1002, 0x45, 0x1003, 0x23, 0x1100, 0x21, 0x1101, 0x43, 0x1102, 0x65, 0x1103, 0x87)
		after, m, _, used := isa.Run(api.CPU{Chip: chip}, parts, append(program, numbers...), nil, math.MaxInt)
		// 23456789 + 87654321 = 111111110
		if want := memory.Normalize(append(append(program, numbers...), cells(0x1000, 0x10, 0x1001, 0x11, 0x1002, 0x11, 0x1003, 0x11)...)); !slices.Equal(m, want) {
			t.Errorf("the sum on the chip %d gives the memory %v, want %v", chip, m, want)
		}
		if used != 37 || !after.Regs.F.CY || after.Regs.PC != 0x14 {
			t.Errorf("the sum on the chip %d takes %d instructions and leads to %+v", chip, used, after)
		}
	}
}

// P19.2: a program with the undocumented instructions of the 8085.
func TestRunOfUndocumentedInstructions(t *testing.T) {
	program := memory.Load(0x0000, assemble(t, api.Chip8085,
		"lxi sp,0x2000", "lxi h,0x1234", "lxi b,0x0234", "dsub", "ldhi 0x05",
		"lxi h,0xbeef", "shlx", "lxi h,0x0000", "lhlx", "arhl", "rdel", "shld 0x1800", "xchg", "shld 0x1802",
		"ldsi 0x10", "xchg", "shld 0x1804", "mvi a,0x7f", "inr a", "rstv"))
	program = append(program, cells(0x0040, 0x76)...)
	after, m, _, used := isa.Run(api.CPU{Chip: api.Chip8085}, parts, program, nil, 100)
	written := cells(0x1005, 0xEF, 0x1006, 0xBE, 0x1800, 0x77, 0x1801, 0xDF, 0x1802, 0x0B, 0x1803, 0x20, 0x1804, 0x10, 0x1805, 0x20, 0x1FFE, 0x27)
	if want := memory.Normalize(append(program, written...)); !slices.Equal(m, want) {
		t.Errorf("the program gives the memory %v, want %v", m, want)
	}
	if used != 21 || !after.Halted || after.Regs.PC != 0x41 || after.Regs.SP != 0x1FFE {
		t.Errorf("the program takes %d instructions and leads to %+v", used, after)
	}
}

// P19.2: a program in RAM that writes its own next instruction.
func TestRunOfAProgramThatChangesItself(t *testing.T) {
	c := api.CPU{Chip: api.Chip8080, Regs: api.Regs{PC: 0x4000}}
	m := memory.Load(0x4000, assemble(t, api.Chip8080, "mvi a,0x76", "sta 0x4005", "nop", "nop"))
	after, changed, _, used := isa.Run(c, parts, m, nil, 100)
	if used != 3 || after.Regs.PC != 0x4006 || memory.Get(changed, 0x4005) != 0x76 {
		t.Errorf("the program takes %d instructions and leads to %+v", used, after)
	}
}

// P19.2: the number of steps.
func TestRunCountsItsSteps(t *testing.T) {
	loop := cells(0x0100, 0xC3, 0x0102, 0x01) // jmp 0x0100
	for _, x := range []struct{ steps, used int }{
		{math.MinInt, 0}, {-10001, 0}, {-1, 0}, {0, 0}, {1, 1}, {2, 2}, {3, 3}, {9999, 9999},
		{10000, 10000}, {10001, 10000}, {20000, 10000}, {1 << 32, 10000}, {1<<32 - 1, 10000}, {math.MaxInt, 10000},
	} {
		after, m, outs, used := isa.Run(example(api.Chip8080), parts, loop, nil, x.steps)
		if want := example(api.Chip8080); used != x.used || after != want {
			t.Errorf("Run with %d steps carries out %d, want %d, and leads to %+v", x.steps, used, x.used, after)
		}
		if !slices.Equal(m, loop) || len(outs) != 0 {
			t.Errorf("Run with %d steps gives the memory %v and outs %v", x.steps, m, outs)
		}
	}
}

// P19.2: steps that leave a trace, one by one.
func TestRunEndsAfterItsSteps(t *testing.T) {
	for steps := range 6 {
		m := memory.Load(0x0100, assemble(t, api.Chip8080, "inr a", "out 0x01", "inr a", "out 0x02", "hlt"))
		after, _, outs, used := isa.Run(example(api.Chip8080), parts, m, nil, steps)
		want := []api.Output{{Port: 1, Val: 0xA2}, {Port: 2, Val: 0xA3}}[:min(steps/2, 2)]
		if used != steps || !slices.Equal(outs, want) || after.Halted != (steps == 5) {
			t.Errorf("%d steps carry out %d, put out %v and lead to %+v", steps, used, outs, after)
		}
	}
}

// P19.2: no instruction is carried out if the state is halted, and Hlt is the last one.
func TestRunEndsWhenHalted(t *testing.T) {
	for _, chip := range chips {
		halted := example(chip)
		halted.Halted, halted.IE, halted.Delay, halted.Trap, halted.R75 = true, true, true, true, true
		after, m, outs, used := isa.Run(halted, parts, cells(9, 1, 5, 0, 0x0100, 0xD3, 9, 2), []byte{1}, 5)
		if after != halted || used != 0 || len(outs) != 0 || !slices.Equal(m, cells(9, 2, 0x0100, 0xD3)) {
			t.Errorf("Run of a halted state carries out %d, puts out %v, gives the memory %v and leads to %+v", used, outs, m, after)
		}
		after, _, _, used = isa.Run(example(chip), parts, cells(0x0100, 0x76, 0x0101, 0x3C), nil, 5)
		if used != 1 || !after.Halted || after.Regs.PC != 0x0101 || after.Regs.A != 0xA1 {
			t.Errorf("Run of Hlt carries out %d and leads to %+v", used, after)
		}
	}
}

// P19.2: the memory is normal, whatever is carried out.
func TestRunMakesTheMemoryNormal(t *testing.T) {
	for _, steps := range []int{-1, 0, 1, 2, 10} {
		_, m, _, _ := isa.Run(example(api.Chip8080), parts, cells(9, 1, 5, 2, 7, 0, 0x0100, 0x76, 9, 3), nil, steps)
		if want := cells(5, 2, 9, 3, 0x0100, 0x76); !slices.Equal(m, want) {
			t.Errorf("%d steps give the memory %v, want %v", steps, m, want)
		}
	}
}

// P19.2: the bytes from outside are read in order, and then 0.
func TestRunReadsInOrder(t *testing.T) {
	m := memory.Load(0x0100, assemble(t, api.Chip8085, "in 0x01", "out 0x05", "in 0x02", "out 0x05", "in 0x01", "out 0x06", "in 0x00", "out 0x05", "hlt"))
	for n, want := range [][]byte{{0, 0, 0, 0}, {4, 0, 0, 0}, {4, 7, 0, 0}, {4, 7, 255, 0}, {4, 7, 255, 1}, {4, 7, 255, 1}} {
		_, _, outs, used := isa.Run(example(api.Chip8085), parts, m, []byte{4, 7, 255, 1, 9}[:n], 100)
		if used != 9 || !slices.Equal(outs, []api.Output{{Port: 5, Val: want[0]}, {Port: 5, Val: want[1]}, {Port: 6, Val: want[2]}, {Port: 5, Val: want[3]}}) {
			t.Errorf("with %d bytes %d instructions put out %v, want %v", n, used, outs, want)
		}
	}
}

// P19.2: the lines are false, and no interrupt is served.
func TestRunServesNoInterrupts(t *testing.T) {
	c := example(api.Chip8085)
	c.IE, c.Trap, c.R75, c.WasTrap, c.Was75 = true, true, true, true, true
	after, _, _, used := isa.Run(c, parts, cells(0x0100, 0x20, 0x0101, 0xFB, 0x0102, 0x00, 0x0103, 0x20, 0x0104, 0x76), nil, 100)
	want := c
	want.Regs.A, want.Regs.PC, want.Halted = 0x48, 0x0105, true
	if after != want || used != 5 {
		t.Errorf("%d instructions lead to %+v, want %+v", used, after, want)
	}
}

// P19.2: programs of all kinds of instructions, against the model.
func TestRunOfManyPrograms(t *testing.T) {
	random := newMaker()
	for _, areas := range maps() {
		for _, chip := range chips {
			for range 10 {
				c := random.cpu(chip)
				c.Halted = random.IntN(8) == 0
				m := random.cells(c, random.bytes(40))
				checkRun(t, c, areas, m, random.bytes(random.IntN(6)), random.IntN(60)-2)
			}
		}
	}
}

// P19.2: a run is a row of steps.
func TestRunIsARowOfSteps(t *testing.T) {
	random := newMaker()
	for range 300 {
		c := random.cpu(both[random.IntN(2)])
		c.Halted = false
		m := random.cells(c, random.bytes(30))
		after, changed, outs, used := isa.Run(c, parts, m, nil, 12)
		var put []api.Output
		for range used {
			if c.Halted {
				t.Fatalf("Run carries out an instruction in %+v", c)
			}
			var o []api.Output
			c, m, o, _ = isa.Step(c, parts, m, api.FromNone, nil, api.Lines{})
			put = append(put, o...)
		}
		if c != after || !slices.Equal(m, changed) || !slices.Equal(put, outs) || used < 12 && !c.Halted {
			t.Fatalf("Run of %d steps leads to %+v, and the steps to %+v", used, after, c)
		}
	}
}

// P19.3: running n and then m steps is running n + m steps.
func TestRunInTwoParts(t *testing.T) {
	random := newMaker()
	for range 300 {
		c := random.cpu(both[random.IntN(2)])
		c.Halted = false
		m := random.cells(c, random.bytes(30))
		checkTwoParts(t, c, m, random.IntN(20), random.IntN(20))
	}
	checkTwoParts(t, example(api.Chip8085), cells(0x0100, 0x03, 0x0101, 0xC5, 0x0102, 0xC3, 0x0104, 0x01), 9999, 1)
	checkTwoParts(t, example(api.Chip8080), cells(0x0100, 0x03, 0x0101, 0xD3, 0x0103, 0xC3, 0x0105, 0x01), 1, 9999)
}

func checkTwoParts(t *testing.T, c api.CPU, m []api.Cell, first, second int) {
	t.Helper()
	whole, wholeMemory, wholeOuts, wholeUsed := isa.Run(c, parts, m, nil, first+second)
	c, m, outs, used := isa.Run(c, parts, m, nil, first)
	c, m, more, usedMore := isa.Run(c, parts, m, nil, second)
	if c != whole || !slices.Equal(m, wholeMemory) || !slices.Equal(append(outs, more...), wholeOuts) || used+usedMore != wholeUsed {
		t.Errorf("%d and %d steps carry out %d and %d and lead to %+v; all of them carry out %d and lead to %+v", first, second, used, usedMore, c, wholeUsed, whole)
	}
}

// P19.2 and R2: the arguments stay as they are, also in the spare capacity, whatever happens to the results.
func TestRunLeavesItsArguments(t *testing.T) {
	code := assemble(t, api.Chip8080, "push b", "mov m,a", "in 0x05", "out 0x06", "sta 0x9000", "sta 0x4000", "hlt")
	allCells := append(memory.Load(0x0100, code), cells(0x3056, 5, 0x5000, 6, 0x6FFE, 7, 0x6FFF, 8)...)
	allAreas, allIns := slices.Clone(parts), []byte{1, 2, 3}
	keptCells, keptAreas, keptIns := slices.Clone(allCells), slices.Clone(allAreas), slices.Clone(allIns)
	for steps := range 9 {
		_, m, outs, _ := isa.Run(example(api.Chip8080), allAreas[:5], allCells[:len(allCells)-2], allIns[:1], steps)
		overwrite(m, outs, nil)
		if !slices.Equal(allCells, keptCells) || !slices.Equal(allAreas, keptAreas) || !slices.Equal(allIns, keptIns) {
			t.Fatalf("%d steps change an argument: %v, %v, % x", steps, allCells, allAreas, allIns)
		}
	}
}

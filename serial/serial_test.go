package serial_test

import (
	"math"
	"testing"

	"tstate/api"
	"tstate/serial"
)

// chips are numbers of chips, valid and not: RIM and SIM do the same on all of them.
var chips = []int{api.Chip8085, api.Chip8080, 0, 3, -1, math.MaxInt, math.MinInt}

// someMasks are masks with and without bits above the lowest three.
var someMasks = []byte{0x00, 0x01, 0x02, 0x04, 0x07, 0x08, 0x80, 0xF8, 0xFA, 0xFD, 0xFF}

// regs are registers that all differ, so that a change of any of them shows.
var regs = api.Regs{A: 0x8F, B: 1, C: 2, D: 3, E: 4, H: 5, L: 6, F: api.Flags{S: true, AC: true, V: true}, SP: 0x1234, PC: 0x5678}

// The numbers of bools in a CPU and in the lines.
const (
	boolsOfCPU   = 10
	boolsOfLines = 9
)

// cpu returns the state whose bools are the bits of n, with a chip and a mask.
func cpu(n, chip int, mask byte) api.CPU {
	is := func(i int) bool { return n>>i&1 == 1 }
	return api.CPU{
		Chip: chip, Regs: regs, Mask: mask,
		IE: is(0), Saved: is(1), SavedIE: is(2), R75: is(3), SOD: is(4),
		Delay: is(5), Halted: is(6), Trap: is(7), WasTrap: is(8), Was75: is(9),
	}
}

// lines returns the levels that are the bits of n.
func lines(n int) api.Lines {
	is := func(i int) bool { return n>>i&1 == 1 }
	return api.Lines{
		Sid: is(0), R65: is(1), R55: is(2),
		R75: is(3), Trap: is(4), Intr: is(5), Ready: is(6), Hold: is(7), Reset: is(8),
	}
}

// shown returns the byte of RIM, spelled from bit 7 to bit 0.
func shown(c api.CPU, l api.Lines) byte {
	bit3 := (c.Saved && c.SavedIE) || (!c.Saved && c.IE)
	sum := 0
	for _, bit := range []bool{l.Sid, c.R75, l.R65, l.R55, bit3, c.Mask/4%2 == 1, c.Mask/2%2 == 1, c.Mask%2 == 1} {
		sum *= 2
		if bit {
			sum++
		}
	}
	return byte(sum)
}

// checkRim compares Rim with the byte that is shown, and with the state without what a TRAP has saved.
func checkRim(t *testing.T, c api.CPU, l api.Lines) {
	t.Helper()
	want, after := shown(c, l), c
	after.Saved, after.SavedIE = false, false
	if b, got := serial.Rim(c, l); b != want || got != after {
		t.Fatalf("Rim(%+v, %+v) = %#02x, %+v, want %#02x, %+v", c, l, b, got, want, after)
	}
}

// P14.1
func TestRimExamples(t *testing.T) {
	all := api.Lines{Ready: true, Hold: true, Reset: true, Sid: true, Trap: true, R75: true, R65: true, R55: true, Intr: true}
	for _, x := range []struct {
		c    api.CPU
		l    api.Lines
		want byte
	}{
		{api.CPU{}, api.Lines{}, 0x00},
		{api.CPU{}, api.Lines{Sid: true}, 0x80},
		{api.CPU{R75: true}, api.Lines{}, 0x40},
		{api.CPU{}, api.Lines{R75: true}, 0x00}, {api.CPU{Was75: true}, api.Lines{R75: true}, 0x00},
		{api.CPU{}, api.Lines{R65: true}, 0x20},
		{api.CPU{}, api.Lines{R55: true}, 0x10},
		{api.CPU{IE: true}, api.Lines{}, 0x08},
		{api.CPU{IE: true, Saved: true}, api.Lines{}, 0x00}, {api.CPU{Saved: true, SavedIE: true}, api.Lines{}, 0x08},
		{api.CPU{IE: true, Saved: true, SavedIE: true}, api.Lines{}, 0x08}, {api.CPU{Saved: true}, api.Lines{}, 0x00},
		{api.CPU{SavedIE: true}, api.Lines{}, 0x00}, {api.CPU{IE: true, SavedIE: true}, api.Lines{}, 0x08},
		{api.CPU{IE: true, Delay: true}, api.Lines{}, 0x08}, {api.CPU{Delay: true}, api.Lines{}, 0x00},
		{api.CPU{Mask: 1}, api.Lines{}, 0x01}, {api.CPU{Mask: 2}, api.Lines{}, 0x02}, {api.CPU{Mask: 4}, api.Lines{}, 0x04}, {api.CPU{Mask: 7}, api.Lines{}, 0x07},
		{api.CPU{Mask: 0xF8}, api.Lines{}, 0x00}, {api.CPU{Mask: 0xFF}, api.Lines{}, 0x07},
		{api.CPU{Mask: 7}, api.Lines{R65: true, R55: true}, 0x37}, {api.CPU{Mask: 7, R75: true}, api.Lines{}, 0x47},
		{api.CPU{SOD: true, Trap: true, WasTrap: true, Was75: true, Halted: true}, api.Lines{}, 0x00},
		{api.CPU{}, api.Lines{Trap: true, R75: true, Intr: true, Ready: true, Hold: true, Reset: true}, 0x00},
		{api.CPU{}, all, 0xB0}, {api.CPU{IE: true, R75: true, Mask: 7}, all, 0xFF},
		{api.CPU{Regs: api.Regs{A: 0xFF}}, api.Lines{}, 0x00},
	} {
		if got, _ := serial.Rim(x.c, x.l); got != x.want {
			t.Errorf("Rim(%+v, %+v) = %#02x, want %#02x", x.c, x.l, got, x.want)
		}
	}
}

// P14.1: the state after RIM is spelled out.
func TestStateAfterRim(t *testing.T) {
	full := api.CPU{
		Chip: api.Chip8085, Regs: regs, IE: true, Delay: true, Halted: true, Mask: 0xFD, Trap: true, R75: true,
		WasTrap: true, Was75: true, Saved: true, SavedIE: true, SOD: true,
	}
	without := api.CPU{
		Chip: api.Chip8085, Regs: regs, IE: true, Delay: true, Halted: true, Mask: 0xFD, Trap: true, R75: true,
		WasTrap: true, Was75: true, SOD: true,
	}
	for _, x := range []struct{ c, want api.CPU }{
		{full, without}, {without, without}, {api.CPU{}, api.CPU{}},
		{api.CPU{Saved: true}, api.CPU{}}, {api.CPU{SavedIE: true}, api.CPU{}}, {api.CPU{Saved: true, SavedIE: true}, api.CPU{}},
		{api.CPU{Saved: true, IE: true}, api.CPU{IE: true}},
	} {
		if _, got := serial.Rim(x.c, api.Lines{Sid: true, R75: true, Trap: true}); got != x.want {
			t.Errorf("the state after Rim of %+v = %+v, want %+v", x.c, got, x.want)
		}
	}
}

// P14.1: all bools of the state with all levels.
func TestRimOfAllBools(t *testing.T) {
	for n := range 1 << boolsOfCPU {
		for k := range 1 << boolsOfLines {
			for _, mask := range []byte{0x00, 0xFA} {
				checkRim(t, cpu(n, api.Chip8085, mask), lines(k))
			}
		}
	}
}

// P14.1: all masks and other numbers of chips, with the bools and the levels that the byte shows.
func TestRimOfAllMasksAndChips(t *testing.T) {
	for mask := range 256 {
		for _, chip := range chips {
			for n := range 1 << 4 {
				for k := range 1 << 3 {
					checkRim(t, cpu(n, chip, byte(mask)), lines(k))
				}
			}
		}
	}
}

// P14.2: the chapter's examples, and each bit alone and with others.
func TestSimExamples(t *testing.T) {
	off := api.CPU{Chip: api.Chip8085, Regs: regs, IE: true, Mask: 5, R75: true, Was75: true}
	on := off
	on.SOD = true
	for _, x := range []struct {
		a    byte
		sod  bool // after SIM in the state with SOD
		low  bool // after SIM in the state without it
		r75  bool
		mask byte
	}{
		{0x00, true, false, true, 5}, {0x80, true, false, true, 5}, {0x40, false, false, true, 5}, {0xC0, true, true, true, 5},
		{0x20, true, false, true, 5}, {0xA7, true, false, true, 5}, {0x07, true, false, true, 5}, {0x02, true, false, true, 5},
		{0x10, true, false, false, 5}, {0x90, true, false, false, 5}, {0x17, true, false, false, 5}, {0xB7, true, false, false, 5},
		{0x08, true, false, true, 0}, {0x09, true, false, true, 1}, {0x0A, true, false, true, 2}, {0x0B, true, false, true, 3},
		{0x0C, true, false, true, 4}, {0x0D, true, false, true, 5}, {0x0E, true, false, true, 6}, {0x0F, true, false, true, 7},
		{0x1F, true, false, false, 7}, {0x58, false, false, false, 0}, {0xD8, true, true, false, 0}, {0xFF, true, true, false, 7},
		{0x7F, false, false, false, 7}, {0xBF, true, false, false, 7}, {0xEF, true, true, true, 7}, {0xF7, true, true, false, 5},
	} {
		for _, y := range []struct {
			c   api.CPU
			sod bool
		}{{on, x.sod}, {off, x.low}} {
			want := y.c
			want.SOD, want.R75, want.Mask = y.sod, x.r75, x.mask
			if got := serial.Sim(y.c, x.a); got != want {
				t.Errorf("Sim(%+v, %#02x) = %+v, want %+v", y.c, x.a, got, want)
			}
		}
	}
}

// P14.2: all bytes with all bools of the state, masks and numbers of chips.
func TestSimOfAllBytes(t *testing.T) {
	for n := range 1 << boolsOfCPU {
		for i, mask := range someMasks {
			c := cpu(n, chips[i%len(chips)], mask)
			for a := range 256 {
				want := afterSim(c, a)
				if got := serial.Sim(c, byte(a)); got != want {
					t.Fatalf("Sim(%+v, %#02x) = %+v, want %+v", c, a, got, want)
				}
			}
		}
	}
}

// afterSim is a model of SIM in whole numbers.
func afterSim(c api.CPU, a int) api.CPU {
	switch a / 64 {
	case 1:
		c.SOD = false
	case 3:
		c.SOD = true
	}
	if a%32 >= 16 {
		c.R75 = false
	}
	if a%16 >= 8 {
		c.Mask = byte(a%16 - 8)
	}
	return c
}

// P14.3: after SIM with bit 3, RIM shows its masks; without it, those of before.
func TestRimShowsTheMasksOfSim(t *testing.T) {
	for mask := range 256 {
		for n := range 1 << 5 {
			c := cpu(n, api.Chip8085, byte(mask))
			for a := range 256 {
				want := byte(a % 8)
				if a/8%2 == 0 {
					want = byte(mask % 8)
				}
				if got, _ := serial.Rim(serial.Sim(c, byte(a)), lines(mask)); got%8 != want {
					t.Fatalf("the masks of Rim after Sim(%+v, %#02x) = %d, want %d", c, a, got%8, want)
				}
			}
		}
	}
}

// afterTrap is the state in which the service of a TRAP begins.
func afterTrap(c api.CPU) api.CPU {
	c.Saved, c.SavedIE = true, c.IE
	c.IE, c.Delay, c.Halted, c.Trap = false, false, false, false
	return c
}

// P14.3: the first RIM after a TRAP shows the IE of before, and each later one the IE of its own time. A SIM in between
// changes neither.
func TestFirstRimAfterTrap(t *testing.T) {
	for n := range 1 << boolsOfCPU {
		for _, a := range []byte{0x00, 0x08, 0x0F, 0x10, 0xC0, 0xFF} {
			for _, now := range []bool{false, true} {
				before := cpu(n, api.Chip8085, 0x05)
				c := serial.Sim(afterTrap(before), a)
				c.IE = now
				first, c := serial.Rim(c, lines(n))
				second, c := serial.Rim(c, lines(n))
				c.IE = !now
				third, _ := serial.Rim(c, lines(n))
				got, want := [3]bool{first&8 != 0, second&8 != 0, third&8 != 0}, [3]bool{before.IE, now, !now}
				if got != want {
					t.Fatalf("bits 3 of Rim after a TRAP in %+v, and Sim of %#02x, = %v, want %v", before, a, got, want)
				}
			}
		}
	}
}

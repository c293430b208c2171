package irq_test

import (
	"math"
	"slices"
	"testing"

	"tstate/api"
	"tstate/irq"
	"tstate/serial"
)

// others are numbers of chips that are not the 8085: all of them count as the 8080.
var others = []int{api.Chip8080, 0, 3, -1, -2, 258, api.Chip8085 + 1<<32, math.MaxInt, math.MinInt}

// chips are the 8085 and the others.
var chips = append([]int{api.Chip8085}, others...)

// served are the numbers of all sources but FromNone.
var served = []int{api.FromTrap, api.From75, api.From65, api.From55, api.FromIntr}

// notServed are FromNone and numbers that are no sources, also those that agree with one in their low bits alone.
var notServed = []int{
	api.FromNone, 6, 7, 8, 9, 255, 256, 257, 258, 259, 260, 261, -1, -2, -3, -4, -5, -255, -254, -253, -252, -251,
	1 << 32, 1<<32 + 1, 1<<32 + 2, 1<<32 + 3, 1<<32 + 4, 1<<32 + 5, math.MaxInt, math.MinInt, math.MinInt + 1, math.MinInt + 5,
}

// someMasks are masks with and without bits above the lowest three.
var someMasks = []byte{0x00, 0x01, 0x02, 0x04, 0x07, 0x08, 0xF8, 0xFA, 0xFD, 0xFF}

// regs are registers that all differ, so that a change of any of them shows.
var regs = api.Regs{A: 0x8F, B: 1, C: 2, D: 3, E: 4, H: 5, L: 6, F: api.Flags{S: true, AC: true, V: true}, SP: 0x1234, PC: 0x5678}

// The numbers of bools in a CPU and in the lines. Pick depends on the first ones alone.
const (
	boolsOfCPU   = 10
	boolsOfLines = 9
	pickOfCPU    = 4
	pickOfLines  = 3
)

// cpu returns the state whose bools are the bits of n, with a chip and a mask.
func cpu(n, chip int, mask byte) api.CPU {
	is := func(i int) bool { return n>>i&1 == 1 }
	return api.CPU{
		Chip: chip, Regs: regs, Mask: mask,
		IE: is(0), Delay: is(1), Trap: is(2), R75: is(3),
		Halted: is(4), WasTrap: is(5), Was75: is(6), Saved: is(7), SavedIE: is(8), SOD: is(9),
	}
}

// lines returns the levels that are the bits of n.
func lines(n int) api.Lines {
	is := func(i int) bool { return n>>i&1 == 1 }
	return api.Lines{
		R65: is(0), R55: is(1), Intr: is(2),
		Trap: is(3), R75: is(4), Ready: is(5), Hold: is(6), Reset: is(7), Sid: is(8),
	}
}

// everyLine are all levels, active.
var everyLine = api.Lines{Ready: true, Hold: true, Reset: true, Sid: true, Trap: true, R75: true, R65: true, R55: true, Intr: true}

// P15.1: the latches TRAP and WasTrap, R75 and Was75, spelled out before and after.
func TestLatchExamples(t *testing.T) {
	for _, x := range []struct {
		c    api.CPU
		l    api.Lines
		want api.CPU
	}{
		{api.CPU{}, api.Lines{}, api.CPU{}},
		{api.CPU{}, api.Lines{Trap: true}, api.CPU{Trap: true, WasTrap: true}},
		{api.CPU{Trap: true}, api.Lines{Trap: true}, api.CPU{Trap: true, WasTrap: true}},
		{api.CPU{WasTrap: true}, api.Lines{Trap: true}, api.CPU{WasTrap: true}},
		{api.CPU{Trap: true, WasTrap: true}, api.Lines{Trap: true}, api.CPU{Trap: true, WasTrap: true}},
		{api.CPU{Trap: true}, api.Lines{}, api.CPU{}}, {api.CPU{WasTrap: true}, api.Lines{}, api.CPU{}},
		{api.CPU{Trap: true, WasTrap: true}, api.Lines{}, api.CPU{}},
		{api.CPU{}, api.Lines{R75: true}, api.CPU{R75: true, Was75: true}},
		{api.CPU{R75: true}, api.Lines{R75: true}, api.CPU{R75: true, Was75: true}},
		{api.CPU{Was75: true}, api.Lines{R75: true}, api.CPU{Was75: true}},
		{api.CPU{R75: true, Was75: true}, api.Lines{R75: true}, api.CPU{R75: true, Was75: true}},
		{api.CPU{R75: true}, api.Lines{}, api.CPU{R75: true}}, {api.CPU{Was75: true}, api.Lines{}, api.CPU{}},
		{api.CPU{R75: true, Was75: true}, api.Lines{}, api.CPU{R75: true}},
		{api.CPU{}, api.Lines{Trap: true, R75: true}, api.CPU{Trap: true, WasTrap: true, R75: true, Was75: true}},
		{api.CPU{WasTrap: true}, api.Lines{Trap: true, R75: true}, api.CPU{WasTrap: true, R75: true, Was75: true}},
		{api.CPU{Was75: true}, api.Lines{Trap: true, R75: true}, api.CPU{Trap: true, WasTrap: true, Was75: true}},
		{api.CPU{}, everyLine, api.CPU{Trap: true, WasTrap: true, R75: true, Was75: true}},
		{api.CPU{IE: true, Delay: true, Halted: true}, api.Lines{R65: true, R55: true, Intr: true}, api.CPU{IE: true, Delay: true, Halted: true}},
		{api.CPU{Saved: true, SavedIE: true, SOD: true}, api.Lines{Sid: true, Reset: true}, api.CPU{Saved: true, SavedIE: true, SOD: true}},
		{api.CPU{Mask: 7}, api.Lines{R75: true}, api.CPU{Mask: 7, R75: true, Was75: true}},
		{api.CPU{Mask: 0xFF}, api.Lines{Trap: true}, api.CPU{Mask: 0xFF, Trap: true, WasTrap: true}},
	} {
		x.c.Chip, x.want.Chip = api.Chip8085, api.Chip8085
		if got := irq.Latch(x.c, x.l); got != x.want {
			t.Errorf("Latch(%+v, %+v) = %+v, want %+v", x.c, x.l, got, x.want)
		}
	}
}

// P15.1: all bools of the state with all levels, on all chips.
func TestLatchOfAllBools(t *testing.T) {
	for n := range 1 << boolsOfCPU {
		for k := range 1 << boolsOfLines {
			for _, chip := range chips {
				c, l := cpu(n, chip, someMasks[(n+k)%len(someMasks)]), lines(k)
				want := c
				if chip == api.Chip8085 {
					want = afterLatch(c, l)
				}
				if got := irq.Latch(c, l); got != want {
					t.Fatalf("Latch(%+v, %+v) = %+v, want %+v", c, l, got, want)
				}
			}
		}
	}
}

// afterLatch is a model of Latch on the 8085: the conditions of the promise, one after another.
func afterLatch(c api.CPU, l api.Lines) api.CPU {
	wasTrap, was75 := c.WasTrap, c.Was75
	if !l.Trap {
		c.Trap = false
	}
	if l.Trap && !wasTrap {
		c.Trap = true
	}
	if l.R75 && !was75 {
		c.R75 = true
	}
	c.WasTrap, c.Was75 = l.Trap, l.R75
	return c
}

// P15.1: the levels of one line in a row of clock states, and the latch after each of them. An 's' is a service at the
// boundary before the clock state.
func TestLatchesInTime(t *testing.T) {
	for _, x := range []struct{ levels, trap, r75 string }{
		{"0000", "....", "...."}, {"1111", "TTTT", "RRRR"}, {"0110", ".TT.", ".RRR"}, {"1000", "T...", "RRRR"},
		{"0101", ".T.T", ".RRR"}, {"1s111", "T...", "R..."}, {"1s000", "T...", "R..."}, {"1s0110", "T.TT.", "R.RRR"},
		{"1s1010", "T..T.", "R..RR"}, {"10s01", "T..T", "RR.R"}, {"11s1s101", "TT...T", "RR...R"},
	} {
		if got := latched(x.levels, api.FromTrap); got != x.trap {
			t.Errorf("TRAP with the levels %s: %s, want %s", x.levels, got, x.trap)
		}
		if got := latched(x.levels, api.From75); got != x.r75 {
			t.Errorf("RST 7.5 with the levels %s: %s, want %s", x.levels, got, x.r75)
		}
	}
}

// latched returns the latch of a source after each of the levels, with RST 7.5 masked.
func latched(levels string, source int) string {
	c, out := api.CPU{Chip: api.Chip8085, Mask: 7}, ""
	for _, r := range levels {
		if r == 's' {
			c = irq.Accept(c, source)
			continue
		}
		c = irq.Latch(c, api.Lines{Trap: r == '1' && source == api.FromTrap, R75: r == '1' && source == api.From75})
		switch {
		case c.Trap:
			out += "T"
		case c.R75:
			out += "R"
		default:
			out += "."
		}
	}
	return out
}

// P15.2: the source on the 8085 and on the 8080.
func TestPickExamples(t *testing.T) {
	requests := api.Lines{Trap: true, R75: true, R65: true, R55: true, Intr: true}
	for _, x := range []struct {
		c            api.CPU
		l            api.Lines
		later, early int
	}{
		{api.CPU{}, api.Lines{}, api.FromNone, api.FromNone}, {api.CPU{IE: true}, api.Lines{}, api.FromNone, api.FromNone},
		{api.CPU{}, requests, api.FromNone, api.FromNone}, {api.CPU{R75: true}, requests, api.FromNone, api.FromNone},
		{api.CPU{Trap: true}, api.Lines{}, api.FromTrap, api.FromNone}, {api.CPU{Trap: true, Mask: 0xFF}, requests, api.FromTrap, api.FromNone},
		{api.CPU{IE: true, Trap: true, R75: true}, requests, api.FromTrap, api.FromIntr},
		{api.CPU{IE: true, Delay: true, Trap: true}, requests, api.FromTrap, api.FromNone},
		{api.CPU{IE: true, Delay: true, R75: true}, requests, api.FromNone, api.FromNone},
		{api.CPU{Delay: true}, requests, api.FromNone, api.FromNone},
		{api.CPU{IE: true}, api.Lines{Trap: true}, api.FromNone, api.FromNone}, {api.CPU{IE: true}, api.Lines{R75: true}, api.FromNone, api.FromNone},
		{api.CPU{IE: true, WasTrap: true, Was75: true}, api.Lines{Trap: true, R75: true}, api.FromNone, api.FromNone},
		{api.CPU{IE: true, R75: true}, requests, api.From75, api.FromIntr}, {api.CPU{IE: true, R75: true}, api.Lines{}, api.From75, api.FromNone},
		{api.CPU{IE: true, R75: true, Mask: 3}, requests, api.From75, api.FromIntr}, {api.CPU{IE: true, R75: true, Mask: 4}, requests, api.From65, api.FromIntr},
		{api.CPU{IE: true}, requests, api.From65, api.FromIntr}, {api.CPU{IE: true}, api.Lines{R65: true}, api.From65, api.FromNone},
		{api.CPU{IE: true, Mask: 5}, requests, api.From65, api.FromIntr}, {api.CPU{IE: true, Mask: 2}, requests, api.From55, api.FromIntr},
		{api.CPU{IE: true}, api.Lines{R55: true}, api.From55, api.FromNone}, {api.CPU{IE: true, Mask: 6}, api.Lines{R55: true, Intr: true}, api.From55, api.FromIntr},
		{api.CPU{IE: true, Mask: 6, R75: true}, requests, api.From55, api.FromIntr}, {api.CPU{IE: true, Mask: 7, R75: true}, requests, api.FromIntr, api.FromIntr},
		{api.CPU{IE: true, Mask: 1}, api.Lines{R55: true}, api.FromNone, api.FromNone}, {api.CPU{IE: true, Mask: 2}, api.Lines{R65: true}, api.FromNone, api.FromNone},
		{api.CPU{IE: true, Mask: 4, R75: true}, api.Lines{}, api.FromNone, api.FromNone},
		{api.CPU{IE: true}, api.Lines{Intr: true}, api.FromIntr, api.FromIntr}, {api.CPU{IE: true, Mask: 0xFF}, api.Lines{Intr: true}, api.FromIntr, api.FromIntr},
		{api.CPU{IE: true, Mask: 0xF8, R75: true}, requests, api.From75, api.FromIntr}, {api.CPU{IE: true, Mask: 0xFC}, requests, api.From65, api.FromIntr},
		{api.CPU{IE: true, Halted: true}, api.Lines{Intr: true}, api.FromIntr, api.FromIntr}, {api.CPU{Halted: true}, api.Lines{Intr: true}, api.FromNone, api.FromNone},
		{api.CPU{Saved: true, SavedIE: true}, requests, api.FromNone, api.FromNone},
	} {
		for _, chip := range chips {
			x.c.Chip = chip
			want := x.early
			if chip == api.Chip8085 {
				want = x.later
			}
			if got := irq.Pick(x.c, x.l); got != want {
				t.Errorf("Pick(%+v, %+v) = %d, want %d", x.c, x.l, got, want)
			}
		}
	}
}

// request is what a source needs to be served.
type request struct {
	source           int
	active, enabled  bool // it is requested; it is enabled and not masked
	onlyOnLaterChips bool
}

// requests returns the requests of a state, in the order of their priorities.
func requests(c api.CPU, l api.Lines) []request {
	enabled := c.IE && !c.Delay
	return []request{
		{api.FromTrap, c.Trap, true, true},
		{api.From75, c.R75, enabled && c.Mask/4%2 == 0, true},
		{api.From65, l.R65, enabled && c.Mask/2%2 == 0, true},
		{api.From55, l.R55, enabled && c.Mask%2 == 0, true},
		{api.FromIntr, l.Intr, enabled, false},
	}
}

// serves reports whether a source would be served if it were the only one.
func serves(c api.CPU, r request) bool {
	return r.active && r.enabled && (c.Chip == api.Chip8085 || !r.onlyOnLaterChips)
}

// picked is a model of Pick: the first request that can be served.
func picked(c api.CPU, l api.Lines) int {
	all := requests(c, l)
	if i := slices.IndexFunc(all, func(r request) bool { return serves(c, r) }); i >= 0 {
		return all[i].source
	}
	return api.FromNone
}

func checkPick(t *testing.T, c api.CPU, l api.Lines) {
	t.Helper()
	if got, want := irq.Pick(c, l), picked(c, l); got != want {
		t.Fatalf("Pick(%+v, %+v) = %d, want %d", c, l, got, want)
	}
}

// P15.2: all bools of the state with all levels.
func TestPickOfAllBools(t *testing.T) {
	for n := range 1 << boolsOfCPU {
		for k := range 1 << boolsOfLines {
			for _, chip := range []int{api.Chip8085, api.Chip8080} {
				checkPick(t, cpu(n, chip, someMasks[(n+k)%len(someMasks)]), lines(k))
			}
		}
	}
}

// P15.2: all masks and all chips, with the bools and the levels that count.
func TestPickOfAllMasksAndChips(t *testing.T) {
	for mask := range 256 {
		for _, chip := range chips {
			for n := range 1 << pickOfCPU {
				for k := range 1 << pickOfLines {
					checkPick(t, cpu(n, chip, byte(mask)), lines(k))
				}
			}
		}
	}
}

// P15.3: the state after each source is spelled out, from a state with all bools and from one with none.
func TestAcceptExamples(t *testing.T) {
	full := api.CPU{
		Chip: api.Chip8085, Regs: regs, IE: true, Delay: true, Halted: true, Mask: 0xFD, Trap: true, R75: true,
		WasTrap: true, Was75: true, Saved: true, SavedIE: true, SOD: true,
	}
	disabled := api.CPU{
		Chip: api.Chip8085, Regs: regs, Mask: 0xFD, Trap: true, R75: true, WasTrap: true, Was75: true, Saved: true, SavedIE: true, SOD: true,
	}
	afterTrap := api.CPU{
		Chip: api.Chip8085, Regs: regs, Mask: 0xFD, R75: true, WasTrap: true, Was75: true, Saved: true, SavedIE: true, SOD: true,
	}
	after75 := api.CPU{
		Chip: api.Chip8085, Regs: regs, Mask: 0xFD, Trap: true, WasTrap: true, Was75: true, Saved: true, SavedIE: true, SOD: true,
	}
	for _, x := range []struct {
		c      api.CPU
		source int
		want   api.CPU
	}{
		{full, api.FromTrap, afterTrap}, {full, api.From75, after75}, {full, api.From65, disabled},
		{full, api.From55, disabled}, {full, api.FromIntr, disabled}, {full, api.FromNone, full}, {full, 6, full}, {full, -1, full},
		{disabled, api.From65, disabled}, {disabled, api.From75, after75}, {disabled, api.FromNone, disabled},
		{api.CPU{}, api.FromTrap, api.CPU{Saved: true}}, {api.CPU{IE: true}, api.FromTrap, api.CPU{Saved: true, SavedIE: true}},
		{api.CPU{Saved: true, SavedIE: true}, api.FromTrap, api.CPU{Saved: true}},
		{api.CPU{IE: true, Saved: true}, api.FromTrap, api.CPU{Saved: true, SavedIE: true}},
		{api.CPU{Delay: true}, api.FromTrap, api.CPU{Saved: true}}, {api.CPU{IE: true}, api.From75, api.CPU{}},
		{api.CPU{IE: true}, api.FromIntr, api.CPU{}}, {api.CPU{Halted: true}, api.FromIntr, api.CPU{}},
		{api.CPU{}, api.FromNone, api.CPU{}}, {api.CPU{}, api.From55, api.CPU{}},
	} {
		if got := irq.Accept(x.c, x.source); got != x.want {
			t.Errorf("Accept(%+v, %d) = %+v, want %+v", x.c, x.source, got, x.want)
		}
	}
}

// P15.3: all bools of the state with all sources, on all chips.
func TestAcceptOfAllBools(t *testing.T) {
	for n := range 1 << boolsOfCPU {
		for _, chip := range chips {
			for _, mask := range someMasks {
				c := cpu(n, chip, mask)
				for _, source := range served {
					want := c
					want.IE, want.Delay, want.Halted = false, false, false
					want.Trap = c.Trap && source != api.FromTrap
					want.R75 = c.R75 && source != api.From75
					if source == api.FromTrap {
						want.Saved, want.SavedIE = true, c.IE
					}
					if got := irq.Accept(c, source); got != want {
						t.Fatalf("Accept(%+v, %d) = %+v, want %+v", c, source, got, want)
					}
				}
			}
		}
	}
}

// P15.3: FromNone, and numbers that are no sources.
func TestAcceptOfOtherNumbers(t *testing.T) {
	for n := range 1 << boolsOfCPU {
		for _, chip := range chips {
			c := cpu(n, chip, 0x05)
			for _, source := range notServed {
				if got := irq.Accept(c, source); got != c {
					t.Fatalf("Accept(%+v, %d) = %+v, want the same", c, source, got)
				}
			}
		}
	}
}

// P15.4
func TestVector(t *testing.T) {
	want := map[int]uint16{api.FromTrap: 0x24, api.From75: 0x3C, api.From65: 0x34, api.From55: 0x2C}
	for source := -300; source <= 300; source++ {
		if got := irq.Vector(source); got != want[source] {
			t.Errorf("Vector(%d) = %#02x, want %#02x", source, got, want[source])
		}
	}
	for _, source := range append([]int{api.FromIntr}, notServed...) {
		if got := irq.Vector(source); got != 0 {
			t.Errorf("Vector(%d) = %#02x, want 0", source, got)
		}
	}
}

// P15.5: all bools of the state, masks and chips.
func TestReset(t *testing.T) {
	for n := range 1 << boolsOfCPU {
		for mask := range 256 {
			for _, chip := range chips {
				want := api.CPU{Chip: chip, Regs: api.Regs{A: 0x8F, B: 1, C: 2, D: 3, E: 4, H: 5, L: 6, F: regs.F, SP: 0x1234}}
				if chip == api.Chip8085 {
					want.Mask = 7
				}
				c := cpu(n, chip, byte(mask))
				if got := irq.Reset(c); got != want {
					t.Fatalf("Reset(%+v) = %+v, want %+v", c, got, want)
				}
			}
		}
	}
}

// P15.5: each register stays as it is, and PC does not.
func TestResetOfRegisters(t *testing.T) {
	for _, r := range []api.Regs{
		{}, {A: 0xFF}, {B: 0xFF}, {C: 0xFF}, {D: 0xFF}, {E: 0xFF}, {H: 0xFF}, {L: 0xFF}, {SP: 0xFFFF},
		{F: api.Flags{S: true, Z: true, K: true, AC: true, P: true, V: true, CY: true}},
	} {
		for _, chip := range chips {
			before, want := api.CPU{Chip: chip, Regs: r}, api.CPU{Chip: chip, Regs: r}
			before.Regs.PC = 0xFFFF
			if chip == api.Chip8085 {
				want.Mask = 7
			}
			if got := irq.Reset(before); got != want {
				t.Errorf("Reset(%+v) = %+v, want %+v", before, got, want)
			}
		}
	}
}

// P15.6: the source that Pick returns can be served, and none before it can.
func TestServedSourceHasTheHighestPriority(t *testing.T) {
	for mask := range 256 {
		for n := range 1 << pickOfCPU {
			for k := range 1 << pickOfLines {
				for _, chip := range chips {
					c, l := cpu(n, chip, byte(mask)), lines(k)
					source := irq.Pick(c, l)
					for _, r := range requests(c, l) {
						if r.source == source {
							if !serves(c, r) {
								t.Fatalf("Pick(%+v, %+v) = %d, which is masked, disabled or not requested", c, l, source)
							}
							break
						}
						if serves(c, r) {
							t.Fatalf("Pick(%+v, %+v) = %d, though %d has a higher priority", c, l, source, r.source)
						}
					}
				}
			}
		}
	}
}

// P15.6: TRAP is served on the 8085 with all masks, disabled or directly after EI, and on no other chip.
func TestTrapIsServedEvenIfDisabled(t *testing.T) {
	for mask := range 256 {
		for n := range 1 << boolsOfCPU {
			for _, l := range []api.Lines{{}, everyLine, {Intr: true}, {R65: true, R55: true}} {
				c := cpu(n, api.Chip8085, byte(mask))
				c.Trap = true
				if got := irq.Pick(c, l); got != api.FromTrap {
					t.Fatalf("Pick(%+v, %+v) = %d, want TRAP", c, l, got)
				}
				c.Chip = others[mask%len(others)]
				if got := irq.Pick(c, l); got == api.FromTrap {
					t.Fatalf("Pick(%+v, %+v) is TRAP on the 8080", c, l)
				}
			}
		}
	}
}

// P15.6: after Accept of any source, nothing but TRAP is served: TRAP itself only after another source.
func TestPickAfterAccept(t *testing.T) {
	for n := range 1 << boolsOfCPU {
		for k := range 1 << boolsOfLines {
			for _, source := range served {
				for _, chip := range []int{api.Chip8085, api.Chip8080} {
					c, l := cpu(n, chip, 0xF8), lines(k)
					want := api.FromNone
					if chip == api.Chip8085 && c.Trap && source != api.FromTrap {
						want = api.FromTrap
					}
					if got := irq.Pick(irq.Accept(c, source), l); got != want {
						t.Fatalf("Pick after Accept(%+v, %d), with %+v, = %d, want %d", c, source, l, got, want)
					}
				}
			}
		}
	}
}

// P15.6: directly after EI no interrupt but TRAP is served, and one instruction later all are.
func TestPickAfterEi(t *testing.T) {
	for k := range 1 << boolsOfLines {
		l := lines(k)
		c := irq.Latch(api.CPU{Chip: api.Chip8085, IE: true, Delay: true}, l)
		want := api.FromNone
		if l.Trap {
			want = api.FromTrap
		}
		if got := irq.Pick(c, l); got != want {
			t.Errorf("Pick(%+v, %+v) = %d, want %d", c, l, got, want)
		}
		c.Delay = false
		checkPick(t, c, l)
	}
}

// P14.3 with P15.3: the first RIM after the service of a TRAP has begun shows the IE of before, the second one does not.
func TestRimAfterTrap(t *testing.T) {
	for n := range 1 << boolsOfCPU {
		before := cpu(n, api.Chip8085, 0x05)
		first, c := serial.Rim(irq.Accept(before, api.FromTrap), api.Lines{})
		second, _ := serial.Rim(c, api.Lines{})
		if first&8 != 0 != before.IE || second&8 != 0 {
			t.Fatalf("RIM after a TRAP in %+v shows %#02x and then %#02x", before, first, second)
		}
	}
}

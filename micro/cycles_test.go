package micro_test

import (
	"bytes"
	"strconv"
	"strings"
	"testing"

	"tstate/api"
	"tstate/micro"
)

// firsts8080 and firsts8085 are the numbers of states of the first cycles of all opcodes, sixteen in a line.
const firsts8080 = `
4445554444455544
4445554444455544
4445554444455544
4445444444455544
5555554555555545
5555554555555545
5555554555555545
4444444455555545
4444444444444444
4444444444444444
4444444444444444
4444444444444444
5444554554445545
5444554554445545
5444554555445545
5444554555445545
`

const firsts8085 = `
4446444444464444
4446444444464444
4446444444464444
4446444444464444
4444444444444444
4444444444444444
4444444444444444
4444445444444444
4444444444444444
4444444444444444
4444444444444444
4444444444444444
6444664664466646
6444664664446446
6444664666446446
6444664666446446
`

// totals8080 and totals8085 are the published numbers of states of all opcodes, sixteen in a line: taken, and, behind a
// stroke, not taken.
const totals8080 = `
4    10 7  5  5     5  7  4  4    10 7  5  5     5  7  4
4    10 7  5  5     5  7  4  4    10 7  5  5     5  7  4
4    10 16 5  5     5  7  4  4    10 16 5  5     5  7  4
4    10 13 5  10    10 10 4  4    10 13 5  5     5  7  4
5    5  5  5  5     5  7  5  5    5  5  5  5     5  7  5
5    5  5  5  5     5  7  5  5    5  5  5  5     5  7  5
5    5  5  5  5     5  7  5  5    5  5  5  5     5  7  5
7    7  7  7  7     7  7  7  5    5  5  5  5     5  7  5
4    4  4  4  4     4  7  4  4    4  4  4  4     4  7  4
4    4  4  4  4     4  7  4  4    4  4  4  4     4  7  4
4    4  4  4  4     4  7  4  4    4  4  4  4     4  7  4
4    4  4  4  4     4  7  4  4    4  4  4  4     4  7  4
11|5 10 10 10 17|11 11 7  11 11|5 10 10 10 17|11 17 7  11
11|5 10 10 10 17|11 11 7  11 11|5 10 10 10 17|11 17 7  11
11|5 10 10 18 17|11 11 7  11 11|5 5  10 4  17|11 17 7  11
11|5 10 10 4  17|11 11 7  11 11|5 5  10 4  17|11 17 7  11
`

const totals8085 = `
4    10 7    6  4    4  7  4  10   10 7    6    4    4    7  4
7    10 7    6  4    4  7  4  10   10 7    6    4    4    7  4
4    10 16   6  4    4  7  4  10   10 16   6    4    4    7  4
4    10 13   6  10   10 10 4  10   10 13   6    4    4    7  4
4    4  4    4  4    4  7  4  4    4  4    4    4    4    7  4
4    4  4    4  4    4  7  4  4    4  4    4    4    4    7  4
4    4  4    4  4    4  7  4  4    4  4    4    4    4    7  4
7    7  7    7  7    7  5  7  4    4  4    4    4    4    7  4
4    4  4    4  4    4  7  4  4    4  4    4    4    4    7  4
4    4  4    4  4    4  7  4  4    4  4    4    4    4    7  4
4    4  4    4  4    4  7  4  4    4  4    4    4    4    7  4
4    4  4    4  4    4  7  4  4    4  4    4    4    4    7  4
12|6 10 10|7 10 18|9 12 7  12 12|6 10 10|7 12|6 18|9 18   7  12
12|6 10 10|7 10 18|9 12 7  12 12|6 10 10|7 10   18|9 10|7 7  12
12|6 10 10|7 16 18|9 12 7  12 12|6 6  10|7 4    18|9 10   7  12
12|6 10 10|7 4  18|9 12 7  12 12|6 6  10|7 4    18|9 10|7 7  12
`

// firsts returns the numbers of states of the first cycles of a chip, at the opcodes.
func firsts(chip int) string {
	table := firsts8080
	if chip == api.Chip8085 {
		table = firsts8085
	}
	return strings.Join(strings.Fields(table), "")
}

// total returns the published number of states of an instruction.
func total(c api.CPU, op byte) int {
	table := totals8080
	if c.Chip == api.Chip8085 {
		table = totals8085
	}
	number, otherwise, conditional := strings.Cut(strings.Fields(table)[op], "|")
	if conditional && !holds(c, op) {
		number = otherwise
	}
	n, err := strconv.Atoi(number)
	if err != nil {
		panic(err)
	}
	return n
}

// checkCycles compares Next for each number of completed cycles, and for superfluous bytes, with a list.
func checkCycles(t *testing.T, c api.CPU, source int, got []byte, want []api.Cycle) {
	t.Helper()
	for n := range len(got) + 1 {
		cycle, more := micro.Next(c, source, got[:n])
		if n < len(want) && (cycle != want[n] || !more) {
			t.Fatalf("Next(%+v, %d, % x) = %+v, %t, want %+v", c, source, got[:n], cycle, more, want[n])
		}
		if n >= len(want) && (cycle != api.Cycle{} || more) {
			t.Fatalf("Next(%+v, %d, % x) = %+v, %t, want none", c, source, got[:n], cycle, more)
		}
	}
}

// P16.1: all opcodes on all chips.
func TestFirst(t *testing.T) {
	for _, chip := range chips {
		want := firsts(chip)
		if len(want) != 256 {
			t.Fatalf("the test names %d opcodes", len(want))
		}
		for op := range 256 {
			if got := micro.First(chip, byte(op)); got != int(want[op]-'0') {
				t.Errorf("First(%d, %#02x) = %d, want %c", chip, op, got, want[op])
			}
		}
	}
}

// P16.1: an instruction of each kind that the promise names, and its neighbours.
func TestFirstExamples(t *testing.T) {
	for _, x := range []struct {
		op           byte
		early, later int
	}{
		{0x00, 4, 4}, {0x41, 5, 4}, {0x7F, 5, 4}, {0x46, 4, 4}, {0x70, 4, 4}, {0x77, 4, 4}, {0x76, 4, 5}, {0x3E, 4, 4},
		{0x04, 5, 4}, {0x05, 5, 4}, {0x34, 4, 4}, {0x35, 4, 4}, {0x03, 5, 6}, {0x3B, 5, 6}, {0xE9, 5, 6}, {0xF9, 5, 6},
		{0xCD, 5, 6}, {0xC4, 5, 6}, {0xFC, 5, 6}, {0xC9, 4, 4}, {0xC0, 5, 6}, {0xF8, 5, 6}, {0xC7, 5, 6}, {0xFF, 5, 6},
		{0xC5, 5, 6}, {0xF5, 5, 6}, {0xC1, 4, 4}, {0xC3, 4, 4}, {0xC2, 4, 4}, {0xE3, 4, 4}, {0xEB, 4, 4}, {0x09, 4, 4},
		{0xCB, 4, 6}, {0xD9, 4, 4}, {0xDD, 5, 4}, {0xED, 5, 4}, {0xFD, 5, 4}, {0x08, 4, 4}, {0x10, 4, 4}, {0x20, 4, 4},
	} {
		if early, later := micro.First(api.Chip8080, x.op), micro.First(api.Chip8085, x.op); early != x.early || later != x.later {
			t.Errorf("First of %#02x is %d and %d, want %d and %d", x.op, early, later, x.early, x.later)
		}
	}
}

// example is a state whose registers all differ.
func example(chip int, f api.Flags) api.CPU {
	return api.CPU{Chip: chip, Regs: api.Regs{A: 0x1A, B: 0x1B, C: 0x1C, D: 0x1D, E: 0xFF, H: 0x2A, L: 0x2B, F: f, SP: 0x3000, PC: 0x4000}}
}

// P16.2: some instructions, spelled out.
func TestNextExamples(t *testing.T) {
	fetch := api.Cycle{Kind: api.CycFetch, At: 0x4000, States: 4}
	ack := api.Cycle{Kind: api.CycAck, At: 0x4000, States: 4}
	low := api.Cycle{Kind: api.CycRead, At: 0x4001, States: 3}
	high := api.Cycle{Kind: api.CycRead, At: 0x4002, States: 3}
	more := api.Cycle{Kind: api.CycMore, At: 0x4000, States: 3}
	idle := api.Cycle{Kind: api.CycIdle, At: 0x4000, States: 3}
	push := func(at uint16, b byte) api.Cycle { return api.Cycle{Kind: api.CycPush, At: at, Data: b, States: 3} }
	pop := func(at uint16) api.Cycle { return api.Cycle{Kind: api.CycPop, At: at, States: 3} }
	read := func(at uint16) api.Cycle { return api.Cycle{Kind: api.CycRead, At: at, States: 3} }
	write := func(at uint16, b byte) api.Cycle { return api.Cycle{Kind: api.CycWrite, At: at, Data: b, States: 3} }
	for _, x := range []struct {
		chip, source int
		f            api.Flags
		got          []byte
		want         []api.Cycle
	}{
		{1, 0, api.Flags{}, []byte{0x3A, 0x34, 0x12, 9, 9}, []api.Cycle{fetch, low, high, read(0x1234)}},
		{1, 0, api.Flags{}, []byte{0xCD, 0x34, 0x12, 9, 9}, []api.Cycle{fetch, low, high, push(0x2FFF, 0x40), push(0x2FFE, 0x03)}},
		{1, 5, api.Flags{}, []byte{0xCD, 0x34, 0x12, 9, 9}, []api.Cycle{ack, more, more, push(0x2FFF, 0x40), push(0x2FFE, 0x00)}},
		{1, 0, api.Flags{}, []byte{0xCA, 0x34, 0x12}, []api.Cycle{fetch, low, high}}, {2, 0, api.Flags{}, []byte{0xCA, 0x34, 0x12}, []api.Cycle{fetch, low}},
		{2, 0, api.Flags{Z: true}, []byte{0xCA, 0x34, 0x12}, []api.Cycle{fetch, low, high}},
		{1, 0, api.Flags{}, []byte{0xCC, 0x34, 0x12}, []api.Cycle{fetch, low, high}}, {2, 0, api.Flags{}, []byte{0xCC, 0x34, 0x12}, []api.Cycle{fetch, low}},
		{2, 5, api.Flags{}, []byte{0xCC, 0x34, 0x12}, []api.Cycle{ack, more}},
		{2, 5, api.Flags{}, []byte{0xCB, 0, 0}, []api.Cycle{ack}}, {2, 5, api.Flags{V: true}, []byte{0xCB, 0, 0}, []api.Cycle{ack, push(0x2FFF, 0x40), push(0x2FFE, 0x00)}},
		{2, 0, api.Flags{V: true}, []byte{0xCB, 0, 0}, []api.Cycle{fetch, push(0x2FFF, 0x40), push(0x2FFE, 0x01)}},
		{1, 0, api.Flags{}, []byte{0x34, 0xFF, 7}, []api.Cycle{fetch, read(0x2A2B), write(0x2A2B, 0x00)}},
		{1, 0, api.Flags{}, []byte{0x35, 0x00, 7}, []api.Cycle{fetch, read(0x2A2B), write(0x2A2B, 0xFF)}},
		{1, 0, api.Flags{}, []byte{0x36, 0x55, 7}, []api.Cycle{fetch, low, write(0x2A2B, 0x55)}},
		{1, 0, api.Flags{}, []byte{0x22, 0xFF, 0xFF, 7, 7}, []api.Cycle{fetch, low, high, write(0xFFFF, 0x2B), write(0x0000, 0x2A)}},
		{2, 0, api.Flags{}, []byte{0xD9, 7, 7}, []api.Cycle{fetch, write(0x1DFF, 0x2B), write(0x1E00, 0x2A)}},
		{2, 0, api.Flags{}, []byte{0xED, 7, 7}, []api.Cycle{fetch, read(0x1DFF), read(0x1E00)}},
		{1, 0, api.Flags{CY: true}, []byte{0xF5, 7, 7}, []api.Cycle{fetch, push(0x2FFF, 0x1A), push(0x2FFE, 0x03)}},
		{2, 0, api.Flags{CY: true}, []byte{0xF5, 7, 7}, []api.Cycle{fetch, push(0x2FFF, 0x1A), push(0x2FFE, 0x01)}},
		{1, 0, api.Flags{}, []byte{0xE3, 1, 2, 3, 4}, []api.Cycle{fetch, pop(0x3000), pop(0x3001), push(0x3001, 0x2A), {Kind: api.CycPush, At: 0x3000, Data: 0x2B, States: 5}}},
		{2, 0, api.Flags{}, []byte{0xE3, 1, 2, 3, 4}, []api.Cycle{fetch, pop(0x3000), pop(0x3001), push(0x3001, 0x2A), push(0x3000, 0x2B)}},
		{1, 0, api.Flags{}, []byte{0xDB, 0x81, 7}, []api.Cycle{fetch, low, {Kind: api.CycIn, At: 0x8181, States: 3}}},
		{1, 0, api.Flags{}, []byte{0xD3, 0x81, 7}, []api.Cycle{fetch, low, {Kind: api.CycOut, At: 0x8181, Data: 0x1A, States: 3}}},
		{1, 5, api.Flags{}, []byte{0x76, 7}, []api.Cycle{ack, {Kind: api.CycHalt, At: 0x4000, States: 3}}}, {2, 5, api.Flags{}, []byte{0x76, 7}, []api.Cycle{ack}},
		{1, 0, api.Flags{}, []byte{0x09, 7, 7}, []api.Cycle{fetch, idle, idle}}, {2, 0, api.Flags{}, []byte{0x28, 7, 7}, []api.Cycle{fetch, low, idle}},
		{2, 5, api.Flags{}, []byte{0x38, 7, 7}, []api.Cycle{ack, more, idle}}, {1, 0, api.Flags{}, []byte{0x28, 7, 7}, []api.Cycle{fetch}},
		{2, 1, api.Flags{}, []byte{0xCD, 7, 7}, []api.Cycle{{Kind: api.CycRst, At: 0x4000, States: 6}, push(0x2FFF, 0x40), push(0x2FFE, 0x00)}},
	} {
		checkCycles(t, example(x.chip, x.f), x.source, x.got, x.want)
	}
}

// P16.2: all opcodes with all flags, from memory and injected, on the two chips.
func TestNextOfAllOpcodesAndFlags(t *testing.T) {
	m := newMaker()
	for _, chip := range both {
		for op := range 256 {
			for n := range 128 {
				c := m.cpu(chip)
				c.Regs.F = flagsOf(n)
				for _, source := range []int{api.FromNone, api.FromIntr} {
					got := m.bytes(byte(op), 6)
					checkCycles(t, c, source, got, cycles(c, source, got))
				}
			}
		}
	}
}

// P16.2: all opcodes on all chips, with all sources and numbers that are no sources.
func TestNextOfAllChipsAndSources(t *testing.T) {
	m := newMaker()
	for _, chip := range chips {
		for op := range 256 {
			for _, source := range append(append([]int{api.FromIntr}, restarts...), fromMemory...) {
				c, got := m.cpu(chip), m.bytes(byte(op), 6)
				checkCycles(t, c, source, got, cycles(c, source, got))
			}
		}
	}
}

// P16.2: Inr and Dcr of the cell write the result of each byte; the byte that was written does not matter.
func TestNextOfCountedCells(t *testing.T) {
	m := newMaker()
	for _, chip := range chips {
		for n := range 256 {
			for _, op := range []byte{0x34, 0x35} {
				c, got := m.cpu(chip), m.bytes(op, 4)
				got[1] = byte(n)
				checkCycles(t, c, api.FromNone, got, cycles(c, api.FromNone, got))
			}
		}
	}
}

// P16.2: addresses that wrap around.
func TestNextWrapsAround(t *testing.T) {
	for _, chip := range both {
		for op := range 256 {
			for _, pc := range []uint16{0x0000, 0xFFFE, 0xFFFF} {
				for _, sp := range []uint16{0x0000, 0x0001, 0xFFFE, 0xFFFF} {
					for _, source := range []int{api.FromNone, api.FromIntr, api.FromTrap} {
						c := example(chip, api.Flags{Z: true, CY: true, P: true, S: true, K: true, V: true})
						c.Regs.PC, c.Regs.SP, c.Regs.D = pc, sp, 0xFF
						got := []byte{byte(op), 0xFF, 0xFF, 0x12, 0x34, 0x56}
						checkCycles(t, c, source, got, cycles(c, source, got))
					}
				}
			}
		}
	}
}

// P16.2 and R1: without bytes there is always a cycle, and with many there is none.
func TestNextOfNoAndManyBytes(t *testing.T) {
	m := newMaker()
	many := make([]byte, 1000)
	for _, chip := range chips {
		for op := range 256 {
			for _, source := range append(append([]int{api.FromIntr}, restarts...), fromMemory...) {
				c := m.cpu(chip)
				want := cycles(c, source, many)[0]
				if got, more := micro.Next(c, source, nil); got != want || !more {
					t.Errorf("Next(%+v, %d, nil) = %+v, %t, want %+v", c, source, got, more, want)
				}
				many[0] = byte(op)
				if got, more := micro.Next(c, source, many); got != (api.Cycle{}) || more {
					t.Errorf("Next(%+v, %d, many bytes) = %+v, %t, want none", c, source, got, more)
				}
			}
		}
	}
}

// P16.2 and R2: the bytes stay as they are, also in the spare capacity.
func TestBytesAreLeft(t *testing.T) {
	m := newMaker()
	for _, chip := range both {
		for op := range 256 {
			for _, source := range []int{api.FromNone, api.FromIntr, api.FromTrap} {
				c, got := m.cpu(chip), m.bytes(byte(op), 6)
				all := got[:cap(got)]
				before := bytes.Clone(all)
				for n := range len(got) + 1 {
					micro.Next(c, source, got[:n])
					micro.Finish(c, source, got[:n], m.lines())
				}
				if !bytes.Equal(all, before) {
					t.Fatalf("% x became % x", before, all)
				}
			}
		}
	}
}

// P16.4: the cycles end after at most five, and the sums of their states are the published ones.
func TestSumsOfStates(t *testing.T) {
	m := newMaker()
	for _, chip := range chips {
		for op := range 256 {
			for range 16 {
				for _, source := range []int{api.FromNone, api.FromIntr, 6, -1} {
					c, got := m.cpu(chip), m.bytes(byte(op), 6)
					n, sum := walk(c, source, got)
					if want := total(c, byte(op)); n > 5 || sum != want {
						t.Fatalf("%d cycles of % x in %+v with %d states, want %d", n, got, c, sum, want)
					}
				}
			}
			for _, source := range restarts {
				if n, sum := walk(m.cpu(chip), source, m.bytes(byte(op), 6)); n != 3 || sum != 12 {
					t.Fatalf("an internal restart has %d cycles with %d states", n, sum)
				}
			}
		}
	}
}

// walk returns the number of cycles of an instruction, and of their states. The first cycle has those of First, but for
// an internal restart.
func walk(c api.CPU, source int, got []byte) (n, sum int) {
	for n <= len(got) {
		x, more := micro.Next(c, source, got[:n])
		if !more {
			break
		}
		if x.Kind == api.CycFetch || x.Kind == api.CycAck {
			x.States = micro.First(c.Chip, got[0])
		}
		sum += x.States
		n++
	}
	return n, sum
}

// P16.4: the chapter's examples, and the shortest and the longest instructions.
func TestSumExamples(t *testing.T) {
	for _, x := range []struct {
		chip int
		f    api.Flags
		op   byte
		n    int
		sum  int
	}{
		{1, api.Flags{}, 0x3A, 4, 13}, {2, api.Flags{}, 0x3A, 4, 13}, {1, api.Flags{}, 0xCA, 3, 10}, {2, api.Flags{}, 0xCA, 2, 7},
		{2, api.Flags{Z: true}, 0xCA, 3, 10}, {1, api.Flags{}, 0x00, 1, 4}, {1, api.Flags{}, 0xE3, 5, 18}, {2, api.Flags{}, 0xE3, 5, 16},
		{1, api.Flags{}, 0xCD, 5, 17}, {2, api.Flags{}, 0xCD, 5, 18}, {1, api.Flags{}, 0xCC, 3, 11}, {2, api.Flags{}, 0xCC, 2, 9},
		{1, api.Flags{}, 0x76, 2, 7}, {2, api.Flags{}, 0x76, 1, 5}, {2, api.Flags{}, 0xCB, 1, 6}, {2, api.Flags{V: true}, 0xCB, 3, 12},
		{1, api.Flags{}, 0x2A, 5, 16}, {2, api.Flags{}, 0x10, 2, 7},
	} {
		if n, sum := walk(example(x.chip, x.f), api.FromNone, []byte{x.op, 0, 0, 0, 0, 0}); n != x.n || sum != x.sum {
			t.Errorf("%#02x on the chip %d has %d cycles with %d states, want %d with %d", x.op, x.chip, n, sum, x.n, x.sum)
		}
	}
}

package cycles_test

import (
	"math"
	"slices"
	"strconv"
	"strings"
	"sync"
	"testing"

	"tstate/api"
	"tstate/cycles"
	"tstate/micro"
)

// others are numbers that are not api.Chip8085, so that they count as the 8080.
var others = []int{api.Chip8080, 0, 3, 7, -1, -2, api.Chip8085 + 256, math.MaxInt, math.MinInt, math.MinInt + api.Chip8085}

var chips = append([]int{api.Chip8085}, others...)

// row has some opcodes, and what is expected for each of them on the 8080 and on the 8085: behind a stroke, if it is not
// taken.
type row struct{ name, opcodes, early, later string }

// totals are the numbers of states of all opcodes, in the rows of the chapter.
var totals = []row{
	{"Mov between registers", "40-45 47-4D 4F-55 57-5D 5F-65 67-6D 6F 78-7D 7F", "5", "4"},
	{"Mov with memory", "46 4E 56 5E 66 6E 7E 70-75 77", "7", "7"},
	{"Ldax, Stax", "0A 1A 02 12", "7", "7"},
	{"Mvi of a register", "06 0E 16 1E 26 2E 3E", "7", "7"},
	{"Alu with memory", "86 8E 96 9E A6 AE B6 BE", "7", "7"},
	{"Ali", "C6 CE D6 DE E6 EE F6 FE", "7", "7"},
	{"Mvi of memory", "36", "10", "10"},
	{"Lxi", "01 11 21 31", "10", "10"},
	{"Inr and Dcr of memory", "34 35", "10", "10"},
	{"Dad", "09 19 29 39", "10", "10"},
	{"Pop", "C1 D1 E1 F1", "10", "10"},
	{"In, Out", "DB D3", "10", "10"},
	{"Lda, Sta", "3A 32", "13", "13"},
	{"Lhld, Shld", "2A 22", "16", "16"},
	{"Inr and Dcr of a register", "04 05 0C 0D 14 15 1C 1D 24 25 2C 2D 3C 3D", "5", "4"},
	{"Inx, Dcx, Pchl, Sphl", "03 13 23 33 0B 1B 2B 3B E9 F9", "5", "6"},
	{"Nop, Xchg", "00 EB", "4", "4"},
	{"Alu with a register", "80-85 87-8D 8F-95 97-9D 9F-A5 A7-AD AF-B5 B7-BD BF", "4", "4"},
	{"Rot, Daa, Cma, Stc, Cmc, Ei, Di", "07 0F 17 1F 27 2F 37 3F FB F3", "4", "4"},
	{"Jmp with a condition", "C2 CA D2 DA E2 EA F2 FA", "10", "10|7"},
	{"Jmp with CondAlways", "C3", "10", "10"},
	{"Call with a condition", "C4 CC D4 DC E4 EC F4 FC", "17|11", "18|9"},
	{"Call with CondAlways", "CD", "17", "18"},
	{"Ret with CondAlways", "C9", "10", "10"},
	{"Ret with a condition", "C0 C8 D0 D8 E0 E8 F0 F8", "11|5", "12|6"},
	{"Rst", "C7 CF D7 DF E7 EF F7 FF", "11", "12"},
	{"Push", "C5 D5 E5 F5", "11", "12"},
	{"Xthl", "E3", "18", "16"},
	{"Hlt", "76", "7", "5"},
	{"Nop or Rim, Sim", "20 30", "4", "4"},
	{"Nop or Dsub, Rdel, Ldhi, Ldsi", "08 18 28 38", "4", "10"},
	{"Nop or Arhl", "10", "4", "7"},
	{"Jmp or Rstv", "CB", "10", "12|6"},
	{"Ret or Shlx", "D9", "10", "10"},
	{"Call or Jmp with CondNK, CondK", "DD FD", "17", "10|7"},
	{"Call or Lhlx", "ED", "17", "10"},
}

// sequences are the machine cycles of all opcodes: the letters of their kinds (see kinds), each with its states.
var sequences = []row{
	{"Mov between registers", "40-45 47-4D 4F-55 57-5D 5F-65 67-6D 6F 78-7D 7F", "f5", "f4"},
	{"Mov from memory", "46 4E 56 5E 66 6E 7E", "f4r3", "f4r3"},
	{"Mov to memory", "70-75 77", "f4w3", "f4w3"},
	{"Mvi of a register, Ali", "06 0E 16 1E 26 2E 3E C6 CE D6 DE E6 EE F6 FE", "f4r3", "f4r3"},
	{"Mvi of memory", "36", "f4r3w3", "f4r3w3"},
	{"Lxi, Jmp with CondAlways", "01 11 21 31 C3", "f4r3r3", "f4r3r3"},
	{"Lda", "3A", "f4r3r3r3", "f4r3r3r3"},
	{"Sta", "32", "f4r3r3w3", "f4r3r3w3"},
	{"Lhld", "2A", "f4r3r3r3r3", "f4r3r3r3r3"},
	{"Shld", "22", "f4r3r3w3w3", "f4r3r3w3w3"},
	{"Ldax, Alu with memory", "0A 1A 86 8E 96 9E A6 AE B6 BE", "f4r3", "f4r3"},
	{"Stax", "02 12", "f4w3", "f4w3"},
	{"Inr and Dcr of memory", "34 35", "f4r3w3", "f4r3w3"},
	{"Inr and Dcr of a register", "04 05 0C 0D 14 15 1C 1D 24 25 2C 2D 3C 3D", "f5", "f4"},
	{"Inx, Dcx, Pchl, Sphl", "03 0B 13 1B 23 2B 33 3B E9 F9", "f5", "f6"},
	{"Dad", "09 19 29 39", "f4n3n3", "f4n3n3"},
	{"Jmp with a condition", "C2 CA D2 DA E2 EA F2 FA", "f4r3r3", "f4r3r3|f4r3"},
	{"Call with a condition", "C4 CC D4 DC E4 EC F4 FC", "f5r3r3q3q3|f5r3r3", "f6r3r3q3q3|f6r3"},
	{"Call with CondAlways", "CD", "f5r3r3q3q3", "f6r3r3q3q3"},
	{"Ret with a condition", "C0 C8 D0 D8 E0 E8 F0 F8", "f5p3p3|f5", "f6p3p3|f6"},
	{"Ret with CondAlways, Pop", "C9 C1 D1 E1 F1", "f4p3p3", "f4p3p3"},
	{"Rst, Push", "C7 CF D7 DF E7 EF F7 FF C5 D5 E5 F5", "f5q3q3", "f6q3q3"},
	{"Xthl", "E3", "f4p3p3q3q5", "f4p3p3q3q3"},
	{"In", "DB", "f4r3i3", "f4r3i3"},
	{"Out", "D3", "f4r3o3", "f4r3o3"},
	{"Hlt", "76", "f4h3", "f5"},
	{"Nop, Xchg, Rot, Daa, Cma, Stc, Cmc, Ei, Di", "00 EB 07 0F 17 1F 27 2F 37 3F FB F3", "f4", "f4"},
	{"Alu with a register", "80-85 87-8D 8F-95 97-9D 9F-A5 A7-AD AF-B5 B7-BD BF", "f4", "f4"},
	{"Nop or Rim, Sim", "20 30", "f4", "f4"},
	{"Nop or Dsub, Rdel", "08 18", "f4", "f4n3n3"},
	{"Nop or Ldhi, Ldsi", "28 38", "f4", "f4r3n3"},
	{"Nop or Arhl", "10", "f4", "f4n3"},
	{"Jmp or Rstv", "CB", "f4r3r3", "f6q3q3|f6"},
	{"Ret or Shlx", "D9", "f4p3p3", "f4w3w3"},
	{"Call or Jmp with CondNK, CondK", "DD FD", "f5r3r3q3q3", "f4r3r3|f4r3"},
	{"Call or Lhlx", "ED", "f5r3r3q3q3", "f4r3r3"},
}

// kinds are the letters of the sequences.
var kinds = map[int]string{
	api.CycFetch: "f", api.CycRead: "r", api.CycWrite: "w", api.CycPop: "p", api.CycPush: "q", api.CycIn: "i",
	api.CycOut: "o", api.CycHalt: "h", api.CycIdle: "n",
}

// list returns the opcodes of a row.
func (r row) list(t *testing.T) (all []byte) {
	t.Helper()
	for part := range strings.FieldsSeq(r.opcodes) {
		first, last, isRange := strings.Cut(part, "-")
		if !isRange {
			last = first
		}
		from, err := strconv.ParseUint(first, 16, 8)
		to, err2 := strconv.ParseUint(last, 16, 8)
		if err != nil || err2 != nil || from > to {
			t.Fatalf("%q is no list of opcodes", r.opcodes)
		}
		for op := from; op <= to; op++ {
			all = append(all, byte(op))
		}
	}
	return all
}

// want returns what is expected on a chip.
func (r row) want(chip int, taken bool) string {
	entry := r.early
	if chip == api.Chip8085 {
		entry = r.later
	}
	first, second, conditional := strings.Cut(entry, "|")
	if conditional && !taken {
		return second
	}
	return first
}

// checkRows compares a result for all opcodes on all chips, taken and not, with rows, which name each opcode once.
func checkRows(t *testing.T, rows []row, result func(chip int, op byte, taken bool) string) {
	t.Helper()
	var named []byte
	for _, r := range rows {
		for _, op := range r.list(t) {
			named = append(named, op)
			for _, chip := range chips {
				for _, taken := range []bool{false, true} {
					if got, want := result(chip, op, taken), r.want(chip, taken); got != want {
						t.Errorf("%s: %#02x on the chip %d (taken: %t) gives %s, want %s", r.name, op, chip, taken, got, want)
					}
				}
			}
		}
	}
	slices.Sort(named)
	if len(named) != 256 || len(slices.Compact(named)) != 256 {
		t.Errorf("the rows do not name each opcode once")
	}
}

// text returns the sequence of some machine cycles.
func text(list []api.Cycle) string {
	s := ""
	for _, x := range list {
		s += kinds[x.Kind] + strconv.Itoa(x.States)
	}
	return s
}

// sum returns the number of states of some machine cycles.
func sum(list []api.Cycle) (n int) {
	for _, x := range list {
		n += x.States
	}
	return n
}

// P17.2 and R3: calls at the same time, of which many are the first ones, have the same results.
func TestCallsAtTheSameTime(t *testing.T) {
	var all sync.WaitGroup
	for n := range 16 {
		all.Go(func() {
			chip := chips[n%2]
			for op := range 256 {
				total, list := cycles.Total(chip, byte(op), true), cycles.Kinds(chip, byte(op), true)
				if total == 0 || total != sum(list) {
					t.Errorf("Total(%d, %#02x, true) = %d, and the cycles are %+v", chip, op, total, list)
				}
			}
		})
	}
	all.Wait()
}

// P17.1: some instructions, spelled out.
func TestKindsExamples(t *testing.T) {
	fetch := func(states int) api.Cycle { return api.Cycle{Kind: api.CycFetch, States: states} }
	read, write := api.Cycle{Kind: api.CycRead, States: 3}, api.Cycle{Kind: api.CycWrite, States: 3}
	pop, push := api.Cycle{Kind: api.CycPop, States: 3}, api.Cycle{Kind: api.CycPush, States: 3}
	idle := api.Cycle{Kind: api.CycIdle, States: 3}
	for _, x := range []struct {
		chip  int
		op    byte
		taken bool
		want  []api.Cycle
	}{
		{api.Chip8080, 0x00, false, []api.Cycle{fetch(4)}}, {api.Chip8080, 0x41, true, []api.Cycle{fetch(5)}},
		{api.Chip8080, 0x3A, false, []api.Cycle{fetch(4), read, read, read}}, {api.Chip8085, 0x22, true, []api.Cycle{fetch(4), read, read, write, write}},
		{api.Chip8080, 0xCC, true, []api.Cycle{fetch(5), read, read, push, push}}, {api.Chip8080, 0xCC, false, []api.Cycle{fetch(5), read, read}},
		{api.Chip8085, 0xCC, true, []api.Cycle{fetch(6), read, read, push, push}}, {api.Chip8085, 0xCC, false, []api.Cycle{fetch(6), read}},
		{api.Chip8085, 0xCD, false, []api.Cycle{fetch(6), read, read, push, push}}, {api.Chip8085, 0xC3, false, []api.Cycle{fetch(4), read, read}},
		{api.Chip8080, 0xE3, false, []api.Cycle{fetch(4), pop, pop, push, {Kind: api.CycPush, States: 5}}},
		{api.Chip8085, 0xE3, false, []api.Cycle{fetch(4), pop, pop, push, push}},
		{api.Chip8080, 0x76, true, []api.Cycle{fetch(4), {Kind: api.CycHalt, States: 3}}}, {api.Chip8085, 0x76, true, []api.Cycle{fetch(5)}},
		{api.Chip8080, 0xDB, false, []api.Cycle{fetch(4), read, {Kind: api.CycIn, States: 3}}},
		{api.Chip8080, 0xD3, false, []api.Cycle{fetch(4), read, {Kind: api.CycOut, States: 3}}},
		{api.Chip8085, 0xCB, true, []api.Cycle{fetch(6), push, push}}, {api.Chip8085, 0xCB, false, []api.Cycle{fetch(6)}},
		{api.Chip8085, 0xDD, true, []api.Cycle{fetch(4), read, read}}, {api.Chip8085, 0xFD, false, []api.Cycle{fetch(4), read}},
		{api.Chip8080, 0x28, false, []api.Cycle{fetch(4)}}, {api.Chip8085, 0x28, false, []api.Cycle{fetch(4), read, idle}},
		{-2, 0xC9, false, []api.Cycle{fetch(4), pop, pop}}, {3, 0xD9, false, []api.Cycle{fetch(4), pop, pop}}, {0, 0x09, false, []api.Cycle{fetch(4), idle, idle}},
	} {
		if got := cycles.Kinds(x.chip, x.op, x.taken); !slices.Equal(got, x.want) {
			t.Errorf("Kinds(%d, %#02x, %t) = %+v, want %+v", x.chip, x.op, x.taken, got, x.want)
		}
	}
}

// P17.1: all opcodes on all chips.
func TestKindsOfAllOpcodes(t *testing.T) {
	checkRows(t, sequences, func(chip int, op byte, taken bool) string { return text(cycles.Kinds(chip, op, taken)) })
}

// P17.1: the addresses and the bytes are 0.
func TestKindsHaveNoAddressesAndBytes(t *testing.T) {
	for _, chip := range chips {
		for op := range 256 {
			for _, taken := range []bool{false, true} {
				for n, x := range cycles.Kinds(chip, byte(op), taken) {
					if x.At != 0 || x.Data != 0 {
						t.Errorf("the cycle %d of Kinds(%d, %#02x, %t) is %+v", n, chip, op, taken, x)
					}
				}
			}
		}
	}
}

// P17.1 and R2: a result does not change when another one is overwritten, also in its spare capacity.
func TestKindsAreNew(t *testing.T) {
	for _, chip := range []int{api.Chip8080, api.Chip8085} {
		for op := range 256 {
			first, second := cycles.Kinds(chip, byte(op), true), cycles.Kinds(chip, byte(op), true)
			before := text(second)
			first = first[:cap(first)]
			for n := range first {
				first[n] = api.Cycle{Kind: -1, At: 1, Data: 1, States: -1}
			}
			if third := cycles.Kinds(chip, byte(op), true); text(second) != before || text(third) != before {
				t.Errorf("Kinds(%d, %#02x, true) changed from %s to %+v and %+v", chip, op, before, second, third)
			}
		}
	}
}

// P17.2: the chapter's examples, and instructions for which the chips or the conditions differ.
func TestTotalExamples(t *testing.T) {
	for _, x := range []struct {
		chip  int
		op    byte
		taken bool
		want  int
	}{
		{api.Chip8085, 0xCD, true, 18}, {api.Chip8085, 0xCD, false, 18}, {api.Chip8080, 0xCA, false, 10}, {api.Chip8085, 0xCA, false, 7},
		{api.Chip8080, 0x41, false, 5}, {api.Chip8085, 0x41, false, 4}, {api.Chip8080, 0xC0, true, 11}, {api.Chip8080, 0xC0, false, 5},
		{api.Chip8080, 0xC9, true, 10}, {api.Chip8080, 0xC9, false, 10}, {api.Chip8085, 0xC0, true, 12}, {api.Chip8085, 0xC0, false, 6},
		{api.Chip8080, 0x76, false, 7}, {api.Chip8085, 0x76, false, 5}, {api.Chip8080, 0xE3, true, 18}, {api.Chip8085, 0xE3, true, 16},
		{api.Chip8080, 0xCB, false, 10}, {api.Chip8085, 0xCB, false, 6}, {0, 0xCB, false, 10}, {3, 0xCB, false, 10}, {-2, 0xED, false, 17},
	} {
		if got := cycles.Total(x.chip, x.op, x.taken); got != x.want {
			t.Errorf("Total(%d, %#02x, %t) = %d, want %d", x.chip, x.op, x.taken, got, x.want)
		}
	}
}

// P17.2: all opcodes on all chips.
func TestTotalOfAllOpcodes(t *testing.T) {
	checkRows(t, totals, func(chip int, op byte, taken bool) string { return strconv.Itoa(cycles.Total(chip, op, taken)) })
}

// P17.3: also as the sum of the machine cycles of each internal restart.
func TestRestart(t *testing.T) {
	if got := cycles.Restart(); got != 12 {
		t.Errorf("Restart() = %d, want 12", got)
	}
	for _, source := range []int{api.FromTrap, api.From75, api.From65, api.From55} {
		var list []api.Cycle
		for got := []byte{}; ; got = append(got, 0) {
			x, more := micro.Next(api.CPU{Chip: api.Chip8085}, source, got)
			if !more {
				break
			}
			list = append(list, x)
		}
		if got := sum(list); got != cycles.Restart() {
			t.Errorf("the restart of the source %d takes %d states, want %d", source, got, cycles.Restart())
		}
	}
}

// P17.4: on all chips, from 4 to 18 states, both of which occur.
func TestTotalIsTheSumOfKinds(t *testing.T) {
	least, most := math.MaxInt, 0
	for _, chip := range chips {
		for op := range 256 {
			for _, taken := range []bool{false, true} {
				total, list := cycles.Total(chip, byte(op), taken), cycles.Kinds(chip, byte(op), taken)
				if got := sum(list); got != total {
					t.Errorf("the cycles of %#02x (%d, %t) have %d states, and Total is %d", op, chip, taken, got, total)
				}
				least, most = min(least, total), max(most, total)
			}
		}
	}
	if least != 4 || most != 18 {
		t.Errorf("the totals are from %d to %d, want 4 to 18", least, most)
	}
}

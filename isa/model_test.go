package isa_test

import (
	"math"
	"math/rand/v2"
	"slices"
	"testing"

	"tstate/api"
	"tstate/irq"
	"tstate/isa"
	"tstate/listing"
	"tstate/memory"
	"tstate/micro"
)

// others are numbers that are not api.Chip8085, so that they count as the 8080.
var others = []int{api.Chip8080, 0, 3, -1, -2, api.Chip8085 + 256, math.MaxInt, math.MinInt, math.MinInt + api.Chip8085}

var chips = append([]int{api.Chip8085}, others...)

var both = []int{api.Chip8080, api.Chip8085}

// fromMemory are sources whose instruction comes from memory: FromNone, and numbers that agree with others in their low
// bits alone.
var fromMemory = []int{api.FromNone, 6, 7, 9, 255, 257, 261, -1, -4, -5, -251, 1<<32 + 1, 1<<32 + 5, math.MaxInt, math.MinInt, math.MinInt + 5}

// restarts are the sources of the internal restarts.
var restarts = []int{api.FromTrap, api.From75, api.From65, api.From55}

// sources are those of all kinds.
var sources = slices.Concat(fromMemory, restarts, []int{api.FromIntr})

// everywhere is a memory map of RAM alone.
var everywhere = []api.Region{{From: 0x0000, To: 0xFFFF, RAM: true}}

// parts is a memory map of ROM and RAM, with nothing from 0x8000 to 0xEFFF.
var parts = []api.Region{
	{From: 0x0000, To: 0x0FFF}, {From: 0x1000, To: 0x2FFF, RAM: true, Waits: 3}, {From: 0x0800, To: 0x1FFF},
	{From: 0x2800, To: 0x7FFF, RAM: true, Waits: -1}, {From: 0xFFFF, To: 0xF000, RAM: true}, {From: 0xF000, To: 0xFFFF, RAM: true, Waits: 101},
}

// maps returns memory maps, valid and not.
func maps() [][]api.Region {
	var pages []api.Region
	for n := range 20 {
		pages = append(pages, api.Region{From: uint16(n * 0x0C00), To: uint16(n*0x0C00 + 0x0BFF), RAM: n%3 != 1, Waits: n})
	}
	return [][]api.Region{everywhere, parts, pages, nil, {{From: 0x0000, To: 0xFFFF}}, {{From: 0xFFFF, To: 0x0000, RAM: true}}}
}

// cells makes a list of pairs of an address and a byte.
func cells(pairs ...int) (l []api.Cell) {
	for i := 0; i < len(pairs); i += 2 {
		l = append(l, api.Cell{At: uint16(pairs[i]), Val: byte(pairs[i+1])})
	}
	return l
}

// assemble returns the bytes of instructions that are written as texts.
func assemble(t *testing.T, chip int, lines ...string) (code []byte) {
	t.Helper()
	for _, line := range lines {
		b, errno := listing.Parse(chip, line)
		if errno != api.OK {
			t.Fatalf("%q is no instruction of the chip %d", line, chip)
		}
		code = append(code, b...)
	}
	return code
}

// A model is a machine whose memory is an array with the bytes of all addresses.
type model struct {
	cpu   api.CPU
	areas []api.Region
	bytes [1 << 16]byte
	ins   []byte
	outs  []api.Output
}

func newModel(c api.CPU, areas []api.Region, m []api.Cell, ins []byte) *model {
	x := &model{cpu: c, areas: areas, ins: ins}
	for _, cell := range m {
		x.bytes[cell.At] = cell.Val
	}
	return x
}

// memory returns the memory with the bytes of the model.
func (x *model) memory() (m []api.Cell) {
	for at, v := range x.bytes {
		if v != 0 {
			m = append(m, api.Cell{At: uint16(at), Val: v})
		}
	}
	return m
}

// step does what the chapter says of one step.
func (x *model) step(source int, l api.Lines) (got []byte) {
	c := irq.Accept(x.cpu, source)
	for {
		cycle, more := micro.Next(c, source, got)
		if !more {
			break
		}
		got = append(got, x.byteOf(cycle))
	}
	x.cpu = micro.Finish(c, source, got, l)
	return got
}

// byteOf does what the chapter says of one machine cycle, kind by kind.
func (x *model) byteOf(cycle api.Cycle) byte {
	i := slices.IndexFunc(x.areas, func(r api.Region) bool { return cycle.At >= r.From && cycle.At <= r.To })
	switch cycle.Kind {
	case api.CycFetch, api.CycRead, api.CycPop:
		if i < 0 {
			return 0xFF
		}
		return x.bytes[cycle.At]
	case api.CycWrite, api.CycPush:
		if i >= 0 && x.areas[i].RAM {
			x.bytes[cycle.At] = cycle.Data
		}
		return cycle.Data
	case api.CycIn, api.CycAck, api.CycMore:
		if len(x.ins) > 0 {
			b := x.ins[0]
			x.ins = x.ins[1:]
			return b
		}
	case api.CycOut:
		x.outs = append(x.outs, api.Output{Port: byte(cycle.At % 256), Val: cycle.Data})
		return cycle.Data
	}
	return 0
}

// run does what the chapter says of a run.
func (x *model) run(steps int) (used int) {
	for used < steps && used < 10000 && !x.cpu.Halted {
		x.step(api.FromNone, api.Lines{})
		used++
	}
	return used
}

// checkStep compares a step with that of the model.
func checkStep(t *testing.T, c api.CPU, areas []api.Region, m []api.Cell, source int, ins []byte, l api.Lines) {
	t.Helper()
	want := newModel(c, areas, m, ins)
	wantGot := want.step(source, l)
	after, changed, outs, got := isa.Step(c, areas, m, source, ins, l)
	if after != want.cpu || !slices.Equal(got, wantGot) || !slices.Equal(outs, want.outs) {
		t.Fatalf("Step(%+v, source %d, ins % x) = %+v, outs %v, got % x, want %+v, outs %v, got % x", c, source, ins, after, outs, got, want.cpu, want.outs, wantGot)
	}
	if !slices.Equal(changed, want.memory()) {
		t.Fatalf("Step(%+v, source %d, ins % x) on %v gives the memory %v, want %v", c, source, ins, m, changed, want.memory())
	}
}

// checkRun compares a run with that of the model.
func checkRun(t *testing.T, c api.CPU, areas []api.Region, m []api.Cell, ins []byte, steps int) {
	t.Helper()
	want := newModel(c, areas, m, ins)
	wantUsed := want.run(steps)
	after, changed, outs, used := isa.Run(c, areas, m, ins, steps)
	if after != want.cpu || used != wantUsed || !slices.Equal(outs, want.outs) {
		t.Fatalf("Run(%+v, ins % x, %d steps) = %+v, outs %v, %d steps, want %+v, outs %v, %d steps", c, ins, steps, after, outs, used, want.cpu, want.outs, wantUsed)
	}
	if !slices.Equal(changed, want.memory()) {
		t.Fatalf("Run(%+v, ins % x, %d steps) on %v gives the memory %v, want %v", c, ins, steps, m, changed, want.memory())
	}
}

// maker makes arguments from a sequence of numbers that is always the same.
type maker struct{ *rand.Rand }

func newMaker() maker { return maker{rand.New(rand.NewPCG(19, 3))} }

func (m maker) byte() byte {
	if m.IntN(4) == 0 {
		return []byte{0x00, 0x01, 0x7F, 0x80, 0xFF}[m.IntN(5)]
	}
	return byte(m.IntN(256))
}

func (m maker) word() uint16 {
	if m.IntN(3) == 0 {
		return []uint16{0x0000, 0x0001, 0x0FFF, 0x1000, 0x2FFF, 0x7FFF, 0x8000, 0xEFFF, 0xF000, 0xFFFD, 0xFFFE, 0xFFFF}[m.IntN(12)]
	}
	return uint16(m.IntN(65536))
}

func (m maker) bool() bool { return m.IntN(2) == 1 }

func (m maker) bytes(n int) (l []byte) {
	for range n {
		l = append(l, m.byte())
	}
	return l
}

func (m maker) cpu(chip int) api.CPU {
	return api.CPU{
		Chip: chip,
		Regs: api.Regs{
			A: m.byte(), B: m.byte(), C: m.byte(), D: m.byte(), E: m.byte(), H: m.byte(), L: m.byte(),
			F:  api.Flags{S: m.bool(), Z: m.bool(), K: m.bool(), AC: m.bool(), P: m.bool(), V: m.bool(), CY: m.bool()},
			SP: m.word(), PC: m.word(),
		},
		IE: m.bool(), Delay: m.bool(), Halted: m.bool(), Mask: m.byte(), Trap: m.bool(), R75: m.bool(),
		WasTrap: m.bool(), Was75: m.bool(), Saved: m.bool(), SavedIE: m.bool(), SOD: m.bool(),
	}
}

func (m maker) lines() api.Lines {
	return api.Lines{
		Ready: m.bool(), Hold: m.bool(), Reset: m.bool(), Sid: m.bool(),
		Trap: m.bool(), R75: m.bool(), R65: m.bool(), R55: m.bool(), Intr: m.bool(),
	}
}

// cells returns cells at the places to which the registers point and at others, in no order and some more than once.
// The bytes from PC on are those of code.
func (m maker) cells(c api.CPU, code []byte) (l []api.Cell) {
	at := func(high, low byte) uint16 { return uint16(high)<<8 | uint16(low) }
	r := c.Regs
	for _, from := range []uint16{r.SP - 3, at(r.B, r.C) - 1, at(r.D, r.E) - 1, at(r.H, r.L) - 1, m.word(), r.PC - 2} {
		for n := range uint16(5) {
			l = append(l, api.Cell{At: from + n, Val: m.byte()})
		}
	}
	m.Shuffle(len(l), func(i, j int) { l[i], l[j] = l[j], l[i] })
	for n, v := range code {
		l = append(l, api.Cell{At: r.PC + uint16(n), Val: v})
	}
	if m.bool() {
		return memory.Normalize(l)
	}
	return l
}

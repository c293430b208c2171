package micro_test

import (
	"math"
	"math/rand/v2"
	"slices"
	"strings"

	"tstate/api"
)

// others are numbers that are not api.Chip8085, so that they count as the 8080.
var others = []int{api.Chip8080, 0, 3, -1, -2, api.Chip8085 + 256, math.MaxInt, math.MinInt, math.MinInt + api.Chip8085}

var chips = append([]int{api.Chip8085}, others...)

var both = []int{api.Chip8080, api.Chip8085}

// fromMemory are sources whose instruction comes from memory: FromNone, and numbers that agree with others in their low
// bits alone.
var fromMemory = []int{
	api.FromNone, 6, 7, 9, 255, 257, 261, -1, -2, -3, -4, -5, -251,
	1<<32 + 1, 1<<32 + 5, math.MaxInt, math.MinInt, math.MinInt + 1, math.MinInt + 5,
}

// restarts are the sources of the internal restarts.
var restarts = []int{api.FromTrap, api.From75, api.From65, api.From55}

// cycles8080 has the cycles after the first one for all opcodes of the 8080 in their order, eight in a line: those of an
// instruction that is taken, and, behind a stroke, those of one that is not. Of a cycle, the first letter is its kind
// and the second one its address (see kinds and addressOf). A cycle that writes has its byte as the third one (see
// byteOf). A number as the fourth one are its states.
const cycles8080 = `
-       o.o   wbA      -                -                  -           o     -
-       nc.nc rb       -                -                  -           o     -
-       o.o   wdA      -                -                  -           o     -
-       nc.nc rd       -                -                  -           o     -
-       o.o   o.o.wwL.wWH -             -                  -           o     -
-       nc.nc o.o.rw.rW   -             -                  -           o     -
-       o.o   o.o.wwA  -                rh.wh+             rh.wh-      o.wh1 -
-       nc.nc o.o.rw   -                -                  -           o     -
-       -     -        -                -                  -           rh    -
-       -     -        -                -                  -           rh    -
-       -     -        -                -                  -           rh    -
-       -     -        -                -                  -           rh    -
-       -     -        -                -                  -           rh    -
-       -     -        -                -                  -           rh    -
whB     whC   whD      whE              whH                whL         hc    whA
-       -     -        -                -                  -           rh    -
-       -     -        -                -                  -           rh    -
-       -     -        -                -                  -           rh    -
-       -     -        -                -                  -           rh    -
-       -     -        -                -                  -           rh    -
-       -     -        -                -                  -           rh    -
-       -     -        -                -                  -           rh    -
-       -     -        -                -                  -           rh    -
-       -     -        -                -                  -           rh    -
ps.pS|- ps.pS o.o      o.o              o.o.qtx.qTy|o.o    qtB.qTC     o     qtx.qTy
ps.pS|- ps.pS o.o      o.o              o.o.qtx.qTy|o.o    o.o.qtx.qTy o     qtx.qTy
ps.pS|- ps.pS o.o      o.upA            o.o.qtx.qTy|o.o    qtD.qTE     o     qtx.qTy
ps.pS|- ps.pS o.o      o.ip             o.o.qtx.qTy|o.o    o.o.qtx.qTy o     qtx.qTy
ps.pS|- ps.pS o.o      ps.pS.qSH.qsL5   o.o.qtx.qTy|o.o    qtH.qTL     o     qtx.qTy
ps.pS|- -     o.o      -                o.o.qtx.qTy|o.o    o.o.qtx.qTy o     qtx.qTy
ps.pS|- ps.pS o.o      -                o.o.qtx.qTy|o.o    qtA.qTF     o     qtx.qTy
ps.pS|- -     o.o      -                o.o.qtx.qTy|o.o    o.o.qtx.qTy o     qtx.qTy
`

// cycles8085 has those of the opcodes in which the 8085 differs.
var cycles8085 = map[int]string{
	0x08: "nc.nc", 0x10: "nc", 0x18: "nc.nc", 0x28: "o.nc", 0x38: "o.nc", 0x76: "-",
	0xC2: "o.o|o", 0xCA: "o.o|o", 0xD2: "o.o|o", 0xDA: "o.o|o", 0xE2: "o.o|o", 0xEA: "o.o|o", 0xF2: "o.o|o", 0xFA: "o.o|o",
	0xC4: "o.o.qtx.qTy|o", 0xCC: "o.o.qtx.qTy|o", 0xD4: "o.o.qtx.qTy|o", 0xDC: "o.o.qtx.qTy|o",
	0xE4: "o.o.qtx.qTy|o", 0xEC: "o.o.qtx.qTy|o", 0xF4: "o.o.qtx.qTy|o", 0xFC: "o.o.qtx.qTy|o",
	0xCB: "qtx.qTy|-", 0xD9: "wdL.wDH", 0xDD: "o.o|o", 0xE3: "ps.pS.qSH.qsL", 0xED: "rd.rD", 0xFD: "o.o|o",
}

var kinds = map[byte]int{
	'r': api.CycRead, 'w': api.CycWrite, 'p': api.CycPop, 'q': api.CycPush, 'i': api.CycIn, 'u': api.CycOut, 'h': api.CycHalt, 'n': api.CycIdle,
}

// lengths8080 are the lengths of all opcodes of the 8080, sixteen in a line.
const lengths8080 = `
1311112111111121
1311112111111121
1331112111311121
1331112111311121
1111111111111111
1111111111111111
1111111111111111
1111111111111111
1111111111111111
1111111111111111
1111111111111111
1111111111111111
1133312111333321
1132312111323321
1131312111313321
1131312111313321
`

var lengths8085 = map[int]int{0x28: 2, 0x38: 2, 0xCB: 1, 0xED: 1}

// codes are cycles8080 and, for the 8085, cycles8085, at their opcodes.
func codes(chip int) []string {
	all := strings.Fields(cycles8080)
	if chip == api.Chip8085 {
		for op, code := range cycles8085 {
			all[op] = code
		}
	}
	return all
}

// lengths are lengths8080 and, for the 8085, lengths8085, at their opcodes.
func lengths(chip int) []int {
	var all []int
	for _, digit := range strings.Join(strings.Fields(lengths8080), "") {
		all = append(all, int(digit-'0'))
	}
	if chip == api.Chip8085 {
		for op, length := range lengths8085 {
			all[op] = length
		}
	}
	return all
}

// The tables of a chip, at the opcodes.
var (
	codesOf   = map[bool][]string{false: codes(api.Chip8080), true: codes(api.Chip8085)}
	lengthsOf = map[bool][]int{false: lengths(api.Chip8080), true: lengths(api.Chip8085)}
)

// holds reports whether an instruction with a condition is taken. Those without one have no stroke in the table.
func holds(c api.CPU, op byte) bool {
	f := c.Regs.F
	if c.Chip == api.Chip8085 {
		switch op {
		case 0xCB:
			return f.V
		case 0xDD:
			return !f.K
		case 0xFD:
			return f.K
		}
	}
	return [8]bool{!f.Z, f.Z, !f.CY, f.CY, !f.P, f.P, !f.S, f.S}[op/8%8]
}

// codesFor returns the codes of the cycles after the first one.
func codesFor(c api.CPU, op byte) []string {
	code, otherwise, conditional := strings.Cut(codesOf[c.Chip == api.Chip8085][op], "|")
	if conditional && !holds(c, op) {
		code = otherwise
	}
	if code == "-" {
		return nil
	}
	return strings.Split(code, ".")
}

// behind is the address behind an instruction.
func behind(c api.CPU, source int, op byte) int {
	if source == api.FromIntr {
		return int(c.Regs.PC)
	}
	return int(c.Regs.PC) + lengthsOf[c.Chip == api.Chip8085][op]
}

// addressOf returns the address that a letter names: a pair (b, d, h; s for SP), the word of the operands (w), the port
// (p), PC (c); a capital is the next address, t is SP - 1 and T is SP - 2.
func addressOf(letter byte, c api.CPU, got []byte) uint16 {
	r := c.Regs
	word := func(high, low byte) int { return int(high)*256 + int(low) }
	at := map[byte]func() int{
		'b': func() int { return word(r.B, r.C) },
		'd': func() int { return word(r.D, r.E) },
		'D': func() int { return word(r.D, r.E) + 1 },
		'h': func() int { return word(r.H, r.L) },
		'w': func() int { return word(got[2], got[1]) },
		'W': func() int { return word(got[2], got[1]) + 1 },
		's': func() int { return int(r.SP) },
		'S': func() int { return int(r.SP) + 1 },
		't': func() int { return int(r.SP) - 1 },
		'T': func() int { return int(r.SP) - 2 },
		'p': func() int { return word(got[1], got[1]) },
		'c': func() int { return int(r.PC) },
	}[letter]
	return uint16(at())
}

// flagByte returns the byte of the flags.
func flagByte(c api.CPU) byte {
	f, sum := c.Regs.F, 0
	later := c.Chip == api.Chip8085
	for _, bit := range []bool{f.S, f.Z, later && f.K, f.AC, false, f.P, !later || f.V, f.CY} {
		sum *= 2
		if bit {
			sum++
		}
	}
	return byte(sum)
}

// byteOf returns the byte that a letter names: a register, the flags (F), o1 (1), the byte that was read and 1 more or
// less (+ and -), or the high and the low byte of the address behind the instruction (x and y).
func byteOf(letter byte, c api.CPU, source int, got []byte) byte {
	r := c.Regs
	switch letter {
	case 'F':
		return flagByte(c)
	case '1':
		return got[1]
	case '+':
		return got[1] + 1
	case '-':
		return got[1] - 1
	case 'x':
		return byte(behind(c, source, got[0]) >> 8)
	case 'y':
		return byte(behind(c, source, got[0]))
	}
	return [8]byte{r.A, r.B, r.C, r.D, r.E, r.H, r.L}[strings.IndexByte("ABCDEHL", letter)]
}

// cycles returns the machine cycles of an instruction, as a model: those of the table. At least five bytes are in got.
func cycles(c api.CPU, source int, got []byte) []api.Cycle {
	pc := c.Regs.PC
	if slices.Contains(restarts, source) {
		return []api.Cycle{
			{Kind: api.CycRst, At: pc, States: 6},
			{Kind: api.CycPush, At: c.Regs.SP - 1, Data: byte(pc >> 8), States: 3},
			{Kind: api.CycPush, At: c.Regs.SP - 2, Data: byte(pc), States: 3},
		}
	}
	list := []api.Cycle{{Kind: api.CycFetch, At: pc, States: 4}}
	if source == api.FromIntr {
		list[0].Kind = api.CycAck
	}
	for n, code := range codesFor(c, got[0]) {
		x := api.Cycle{States: 3}
		switch {
		case code == "o" && source == api.FromIntr:
			x.Kind, x.At = api.CycMore, pc
		case code == "o":
			x.Kind, x.At = api.CycRead, pc+uint16(n)+1
		default:
			x.Kind, x.At = kinds[code[0]], addressOf(code[1], c, got)
		}
		if len(code) > 2 {
			x.Data = byteOf(code[2], c, source, got)
		}
		if len(code) > 3 {
			x.States = int(code[3] - '0')
		}
		list = append(list, x)
	}
	return list
}

// flagsOf returns the flags that are the bits of n.
func flagsOf(n int) api.Flags {
	is := func(i int) bool { return n>>i&1 == 1 }
	return api.Flags{S: is(0), Z: is(1), K: is(2), AC: is(3), P: is(4), V: is(5), CY: is(6)}
}

// maker makes states and bytes from a sequence of numbers that is always the same.
type maker struct{ *rand.Rand }

func newMaker() maker { return maker{rand.New(rand.NewPCG(16, 4))} }

func (m maker) byte() byte {
	edges := []byte{0x00, 0x01, 0x0F, 0x7F, 0x80, 0xFE, 0xFF}
	if m.IntN(4) == 0 {
		return edges[m.IntN(len(edges))]
	}
	return byte(m.IntN(256))
}

func (m maker) word() uint16 {
	edges := []uint16{0x0000, 0x0001, 0x0002, 0x00FF, 0x0100, 0x7FFF, 0x8000, 0xFFFC, 0xFFFD, 0xFFFE, 0xFFFF}
	if m.IntN(3) == 0 {
		return edges[m.IntN(len(edges))]
	}
	return uint16(m.IntN(65536))
}

func (m maker) bool() bool { return m.IntN(2) == 1 }

func (m maker) cpu(chip int) api.CPU {
	return api.CPU{
		Chip: chip,
		Regs: api.Regs{
			A: m.byte(), B: m.byte(), C: m.byte(), D: m.byte(), E: m.byte(), H: m.byte(), L: m.byte(),
			F: flagsOf(m.IntN(128)), SP: m.word(), PC: m.word(),
		},
		IE: m.bool(), Delay: m.bool(), Halted: m.bool(), Mask: m.byte(), Trap: m.bool(), R75: m.bool(),
		WasTrap: m.bool(), Was75: m.bool(), Saved: m.bool(), SavedIE: m.bool(), SOD: m.bool(),
	}
}

func (m maker) lines() api.Lines {
	return api.Lines{
		Ready: m.bool(), Hold: m.bool(), Reset: m.bool(), Sid: m.bool(),
		Trap: m.bool(), R75: m.bool(), R65: m.bool(), R55: m.bool(), Intr: m.bool(),
	}
}

// bytes returns an opcode with n bytes behind it, and spare capacity behind those.
func (m maker) bytes(op byte, n int) []byte {
	list := []byte{op}
	for range n {
		list = append(list, m.byte())
	}
	return append(list, m.byte(), m.byte())[:n+1]
}

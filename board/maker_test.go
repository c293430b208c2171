package board_test

import (
	"math"
	"math/rand/v2"

	"tstate/api"
	"tstate/memory"
	"tstate/script"
)

// chips are the two chips, and numbers of other chips, which count as the 8080.
var chips = []int{api.Chip8080, api.Chip8085, 0, 3, -1, api.Chip8085 + 256, math.MaxInt, math.MinInt}

var both = []int{api.Chip8080, api.Chip8085}

// kinds are all kinds of machine cycles, and numbers that are no kinds.
var kinds = []int{
	api.CycFetch, api.CycRead, api.CycWrite, api.CycPop, api.CycPush, api.CycIn, api.CycOut, api.CycAck, api.CycMore,
	api.CycHalt, api.CycIdle, api.CycRst, 0, 13, -1, 256 + 6, 256 + 7, 1<<32 + 1, math.MaxInt, math.MinInt,
}

// states are all values of Next that name a state, and numbers that do not.
var states = []int{
	api.T1, api.T2, api.T3, api.T4, api.T5, api.T6, api.TWait, api.THold, api.THalt,
	0, api.TReset, 11, -1, 256 + 3, 256 + 7, 1<<32 + 8, math.MaxInt, math.MinInt,
}

// odd are numbers of which some are out of every range.
var odd = []int{0, 1, 2, 3, 4, 5, 6, 7, 8, 9, -1, -2, 100, 101, 256, 1 << 32, math.MaxInt, math.MinInt}

// maker makes arguments from a sequence of numbers that is always the same.
type maker struct{ *rand.Rand }

func newMaker() maker { return maker{rand.New(rand.NewPCG(25, 4))} }

func (m maker) bool() bool { return m.IntN(2) == 1 }

func (m maker) rarely(n int) bool { return m.IntN(n) == 0 }

func (m maker) one(list []int) int { return list[m.IntN(len(list))] }

func (m maker) byte() byte { return byte(m.IntN(256)) }

// word returns any word, but often one of a few, so that cycles, cells and regions meet.
func (m maker) word() uint16 {
	if m.bool() {
		return uint16(m.IntN(8) - 4)
	}
	return uint16(m.IntN(65536))
}

func (m maker) bytes(n int) (l []byte) {
	for range n {
		l = append(l, m.byte())
	}
	return l
}

// cells returns any list of cells, not only memories.
func (m maker) cells() (l []api.Cell) {
	for range m.IntN(6) {
		l = append(l, api.Cell{At: m.word(), Val: byte(m.IntN(3))})
	}
	return l
}

// regions returns any list of regions, valid or not.
func (m maker) regions() (l []api.Region) {
	for range m.IntN(5) {
		r := api.Region{From: m.word(), To: m.word(), RAM: m.bool(), Waits: m.one(odd)}
		if m.bool() {
			r.From = 0
		}
		l = append(l, r)
	}
	return l
}

// board returns any board, valid or not.
func (m maker) board(chip int) api.Board {
	return api.Board{
		Chip: chip, Regions: m.regions(), IOWaits: m.one(odd),
		PicPort: byte(m.IntN(8) - 4), DmaPort: byte(m.IntN(8) - 4), Jam: m.rarely(3), Image: m.cells(),
	}
}

func (m maker) cpu(chip int) api.CPU {
	return api.CPU{
		Chip: chip,
		Regs: api.Regs{
			A: m.byte(), B: m.byte(), C: m.byte(), D: m.byte(), E: m.byte(), H: m.byte(), L: m.byte(),
			F:  api.Flags{S: m.bool(), Z: m.bool(), K: m.bool(), AC: m.bool(), P: m.bool(), V: m.bool(), CY: m.bool()},
			SP: m.word(), PC: m.word(),
		},
		IE: m.bool(), Delay: m.rarely(4), Halted: m.bool(), Mask: m.byte(), Trap: m.rarely(4), R75: m.bool(),
		WasTrap: m.bool(), Was75: m.bool(), Saved: m.bool(), SavedIE: m.bool(), SOD: m.bool(),
	}
}

func (m maker) pic() api.PIC {
	return api.PIC{
		Stage: m.one(odd), Level: m.bool(), Four: m.bool(), Single: m.bool(), Fourth: m.bool(), Low: m.byte(), High: m.byte(),
		Auto: m.bool(), Rotate: m.bool(), Special: m.bool(), ReadISR: m.bool(), Poll: m.bool(), Lines: m.byte(), Edge: m.byte(),
		ISR: m.byte() & m.byte() & m.byte(), IMR: m.byte() & m.byte(), Lowest: m.one(odd), Step: m.one(odd), Serving: m.one(odd), Spurious: m.bool(),
	}
}

// system returns any system, also one that no run leads to.
func (m maker) system(chip int) api.System {
	s := api.System{
		Core: api.Core{
			CPU: m.cpu(chip), Source: m.one([]int{0, 0, 1, 2, 3, 4, 5, 6, -1}), Got: m.bytes(m.IntN(6)),
			Cycle: api.Cycle{Kind: m.one(kinds), At: m.word(), Data: m.byte(), States: m.one(odd)},
			Next:  m.one(states), Hold: m.bool(),
		},
		Memory: m.cells(), PIC: m.pic(), DMA: api.DMA{At: m.word(), Value: byte(m.IntN(3)), Left: m.one(odd)}, Waited: m.one(odd),
	}
	if m.rarely(3) {
		s.DMA.Left = 0
	}
	for range m.IntN(3) {
		s.Outs = append(s.Outs, api.Output{Port: m.byte(), Val: m.byte()})
	}
	return s
}

// input returns any input, but often without RESET.
func (m maker) input() api.Input {
	return api.Input{
		Ready: m.bool(), Hold: m.bool(), Reset: m.rarely(5), Sid: m.bool(), Trap: m.bool(), R75: m.bool(), R65: m.bool(), R55: m.bool(),
		Requests: m.byte() & m.byte(), Port: m.byte(),
	}
}

// playable returns a valid board with a program that sets up its devices and goes on with many instructions.
func (m maker) playable(chip int) api.Board {
	b := api.Board{
		Chip: chip, IOWaits: m.IntN(3), PicPort: m.byte(), Jam: m.rarely(3),
		Regions: []api.Region{
			{From: 0x0000, To: 0x00FF, Waits: m.IntN(2)}, {From: 0x4000, To: 0x7FFF, RAM: true, Waits: m.IntN(3)},
			{From: 0x0000, To: 0xBFFF, RAM: true}, {From: 0xE000, To: 0xFFFF, RAM: true, Waits: m.IntN(2)},
		},
	}
	b.DmaPort = b.PicPort + byte(m.IntN(9)-4)
	b.Image = memory.Load(0, append(m.setup(b), m.program(b, 200)...))
	if m.rarely(4) {
		b.Image = memory.Load(0, m.program(b, 300))
	}
	return b
}

// setup returns instructions that set SP, the controller, the masks and a transfer of the DMA master.
func (m maker) setup(b api.Board) []byte {
	code := []byte{0x31, m.byte(), m.byte()} // lxi sp
	out := func(port, v byte) { code = append(code, 0x3E, v, 0xD3, port) }
	out(b.PicPort, 0x12|m.byte()&0x0D) // single, so that no third word follows
	out(b.PicPort+1, m.byte()&3)
	out(b.PicPort+1, m.byte()&3)
	out(b.PicPort+1, m.byte()&m.byte()&m.byte())
	code = append(code, 0x3E, 0x08|m.byte()&0xC7, 0x30) // mvi a; sim, which is a Nop on the 8080
	out(b.DmaPort, m.byte())
	out(b.DmaPort+1, m.byte())
	out(b.DmaPort+2, m.byte())
	out(b.DmaPort+3, byte(m.IntN(6)))
	return append(code, 0xFB)
}

// program returns n bytes of any instructions, among which those are frequent that concern interrupts and devices.
func (m maker) program(b api.Board, n int) (code []byte) {
	for len(code) < n {
		switch m.IntN(12) {
		case 0:
			code = append(code, 0xFB)
		case 1:
			code = append(code, 0x3E, byte(m.IntN(4)), 0xD3, b.DmaPort+3)
		case 2:
			code = append(code, []byte{0xDB, 0xD3}[m.IntN(2)], []byte{b.PicPort, b.DmaPort}[m.IntN(2)]+byte(m.IntN(5)))
		case 3:
			code = append(code, 0x3E, 0x20, 0xD3, b.PicPort) // the end of an interrupt
		case 4:
			code = append(code, []byte{0x76, 0xFB, 0x76}[m.IntN(2):]...)
		default:
			code = append(code, m.byte())
		}
	}
	return code
}

// play returns a script of n inputs, some of which have wrong check bytes. It begins quietly, so that the setup is done.
func (m maker) play(n int) (l []api.Input, entries []byte) {
	hold, resets, requests := 1+m.IntN(40), 60+m.IntN(1000), 1+m.IntN(60)
	for i := range n {
		in := script.Idle()
		if i > 150 || m.rarely(10) {
			in = api.Input{
				Ready: !m.rarely(5), Hold: m.rarely(hold), Reset: m.rarely(resets), Sid: m.bool(),
				Trap: m.rarely(requests * 2), R75: m.rarely(requests), R65: m.rarely(requests), R55: m.rarely(requests), Port: m.byte(),
			}
			if m.rarely(requests) {
				in.Requests = m.byte()
			}
		}
		entry := script.Encode([]api.Input{in})
		if m.rarely(30) {
			entry[m.IntN(4)] ^= 1 + byte(m.IntN(255))
			in = script.Idle()
		}
		l, entries = append(l, in), append(entries, entry...)
	}
	return l, entries
}

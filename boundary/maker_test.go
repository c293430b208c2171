package boundary_test

import (
	"math"
	"math/rand/v2"

	"tstate/api"
	"tstate/memory"
)

// chips are the two chips, and numbers of other chips, which count as the 8080.
var chips = []int{api.Chip8080, api.Chip8085, 0, 3, -1, api.Chip8085 + 256, math.MaxInt, math.MinInt}

var both = []int{api.Chip8080, api.Chip8085}

// eventKinds are the kinds of events, and numbers that are no kinds.
var eventKinds = []int{
	api.EvInstr, api.EvInject, api.EvInternal, api.EvReset, api.EvDma, api.EvCut, api.EvOpen,
	0, 8, -1, -3, 256 + 1, 256 + 4, 1<<32 + 2, 1<<32 + 6, math.MaxInt, math.MinInt, math.MinInt + 1,
}

// sources are the sources of interrupts, and numbers that are none, which count as FromNone.
var sources = []int{
	api.FromNone, api.FromTrap, api.From75, api.From65, api.From55, api.FromIntr,
	6, -1, -5, 256 + 1, 256 + 5, 1<<32 + 3, math.MaxInt, math.MinInt, math.MinInt + 5,
}

// maker makes arguments from a sequence of numbers that is always the same.
type maker struct{ *rand.Rand }

func newMaker() maker { return maker{rand.New(rand.NewPCG(27, 4))} }

func (m maker) bool() bool { return m.IntN(2) == 1 }

func (m maker) rarely(n int) bool { return m.IntN(n) == 0 }

func (m maker) one(list []int) int { return list[m.IntN(len(list))] }

func (m maker) byte() byte { return byte(m.IntN(256)) }

// word returns any word, but often one of a few, so that registers, cells and regions meet.
func (m maker) word() uint16 {
	if m.bool() {
		return uint16(m.IntN(12) - 6)
	}
	return uint16(m.IntN(65536))
}

func (m maker) bytes(n int) (l []byte) {
	for range n {
		l = append(l, m.byte())
	}
	return l
}

// cells returns any list of cells, not only memories.
func (m maker) cells() (l []api.Cell) {
	for range m.IntN(9) {
		l = append(l, api.Cell{At: m.word(), Val: byte(m.IntN(3))})
	}
	return l
}

// regions returns any list of regions, valid or not.
func (m maker) regions() (l []api.Region) {
	for range m.IntN(6) {
		r := api.Region{From: m.word(), To: m.word(), RAM: !m.rarely(4), Waits: m.IntN(300) - 100}
		if m.bool() {
			r.From = 0
		}
		l = append(l, r)
	}
	if m.bool() {
		l = append(l, api.Region{To: 0xFFFF, RAM: true})
	}
	return l
}

func (m maker) cpu(chip int) api.CPU {
	at := m.word() // often both in HL and in SP, so that their words overlap
	c := api.CPU{
		Chip: chip,
		Regs: api.Regs{
			A: m.byte(), B: m.byte(), C: m.byte(), D: m.byte(), E: m.byte(), H: byte(at >> 8), L: byte(at),
			F:  api.Flags{S: m.bool(), Z: m.bool(), K: m.bool(), AC: m.bool(), P: m.bool(), V: m.bool(), CY: m.bool()},
			SP: m.word(), PC: m.word(),
		},
		IE: m.bool(), Delay: m.bool(), Halted: m.bool(), Mask: m.byte(), Trap: m.bool(), R75: m.bool(),
		WasTrap: m.bool(), Was75: m.bool(), Saved: m.bool(), SavedIE: m.bool(), SOD: m.bool(),
	}
	if m.rarely(3) {
		c.Regs.SP = at
	}
	return c
}

func (m maker) lines() api.Lines {
	return api.Lines{
		Ready: m.bool(), Hold: m.bool(), Reset: m.bool(), Sid: m.bool(),
		Trap: m.bool(), R75: m.bool(), R65: m.bool(), R55: m.bool(), Intr: m.bool(),
	}
}

// event returns any event, also one with too few or too many bytes, or with fields that its kind does not name.
func (m maker) event() api.Event {
	e := api.Event{
		Kind: m.one(eventKinds), Source: m.one(sources), Bytes: m.bytes(m.IntN(8)), Lines: m.lines(),
		R75: m.bool(), Trap: m.bool(), Was75: m.bool(), WasTrap: m.bool(), Cell: api.Cell{At: m.word(), Val: byte(m.IntN(3))},
	}
	if m.bool() {
		e.Kind, e.Source = 1+m.IntN(7), m.one([]int{0, 0, 0, 1, 5})
	}
	return e
}

// events returns any list of at most n events.
func (m maker) events(n int) (l []api.Event) {
	for range m.IntN(n + 1) {
		l = append(l, m.event())
	}
	return l
}

// playable returns a valid board with a program that sets up its devices and goes on with many instructions.
func (m maker) playable(chip int) api.Board {
	b := api.Board{
		Chip: chip, IOWaits: m.IntN(2), PicPort: m.byte(), Jam: m.rarely(3),
		Regions: []api.Region{
			{From: 0x0000, To: 0x00FF, RAM: m.bool(), Waits: m.IntN(2)}, {From: 0x4000, To: 0x7FFF, RAM: true, Waits: m.IntN(3)},
			{From: 0x0000, To: 0xBFFF, RAM: true}, {From: 0xE000, To: 0xFFFF, RAM: true, Waits: m.IntN(2)},
		},
	}
	b.DmaPort = b.PicPort + 8
	b.Image = memory.Load(0, append(m.setup(b), m.program(b, 250)...))
	return b
}

// setup returns instructions that set SP, the controller, the masks and the DMA master, and enable interrupts.
func (m maker) setup(b api.Board) []byte {
	code := []byte{0x31, m.byte(), m.byte()} // lxi sp
	out := func(port, v byte) { code = append(code, 0x3E, v, 0xD3, port) }
	out(b.PicPort, 0x12|m.byte()&0x0C) // single, so that no third word follows
	out(b.PicPort+1, m.byte()&3)
	out(b.PicPort+1, m.byte()&m.byte()&m.byte())
	code = append(code, 0x3E, 0x08|m.byte()&0xC7, 0x30) // mvi a; sim, which is a Nop on the 8080
	out(b.DmaPort, m.byte())
	out(b.DmaPort+1, m.byte())
	out(b.DmaPort+2, m.byte())
	return append(code, 0xFB)
}

// program returns n bytes of any instructions, among which those are frequent that concern interrupts and devices.
func (m maker) program(b api.Board, n int) (code []byte) {
	for len(code) < n {
		switch m.IntN(14) {
		case 0, 1:
			code = append(code, 0xFB)
		case 2:
			code = append(code, 0x3E, byte(m.IntN(4)), 0xD3, b.DmaPort+3)
		case 3:
			code = append(code, 0xDB, b.PicPort+byte(m.IntN(12)))
		case 4:
			code = append(code, 0x3E, 0x20, 0xD3, b.PicPort) // the end of an interrupt
		case 5:
			code = append(code, []byte{0x76, 0xFB, 0x76}[m.IntN(2):]...)
		case 6:
			code = append(code, []byte{0x20, 0x30, 0xC5, 0xE5, 0xF5}[m.IntN(5)])
		default:
			code = append(code, m.byte())
		}
	}
	return code
}

// play returns a script of n inputs, which begins quietly, so that the setup is done.
func (m maker) play(n int) (l []api.Input) {
	hold, resets, requests := 1+m.IntN(40), 60+m.IntN(1000), 1+m.IntN(60)
	for i := range n {
		in := api.Input{Ready: true}
		if i > 150 || m.rarely(10) {
			in = api.Input{
				Ready: !m.rarely(5), Hold: m.rarely(hold), Reset: m.rarely(resets), Sid: m.bool(),
				Trap: m.rarely(requests * 2), R75: m.rarely(requests), R65: m.rarely(requests), R55: m.rarely(requests), Port: m.byte(),
			}
		}
		if m.rarely(requests) {
			in.Requests = m.byte()
		}
		l = append(l, in)
	}
	return l
}

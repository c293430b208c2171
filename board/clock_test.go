package board_test

import (
	"bytes"
	"math"
	"slices"
	"testing"

	"tstate/api"
	"tstate/board"
	"tstate/pic"
)

// P25.2, R1 and R5: any systems on any boards with any inputs, compared with the model.
func TestClockOfAnySystems(t *testing.T) {
	m := newMaker()
	for _, chip := range chips {
		for _, next := range states {
			for _, kind := range kinds {
				for range 25 {
					s := m.system(chip)
					s.Core.Next, s.Core.Cycle.Kind = next, kind
					checkClock(t, m.board(m.one(chips)), s, m.input())
				}
			}
		}
	}
}

// P25.2: T3 and TWait, in which most things happen, of the kinds that access the bus.
func TestClockOfAccesses(t *testing.T) {
	m := newMaker()
	for _, kind := range kinds[:9] {
		for range 4000 {
			s := m.system(m.one(both))
			s.Core.Next, s.Core.Cycle.Kind = m.one([]int{api.T3, api.T3, api.T2, api.TWait}), kind
			in := m.input()
			in.Reset = m.rarely(20)
			checkClock(t, m.board(s.Core.CPU.Chip), s, in)
		}
	}
}

// P25.2: long runs by Clock.
func TestClockInRuns(t *testing.T) {
	m := newMaker()
	for _, chip := range both {
		for range 15 {
			b := m.playable(chip)
			s, _ := board.New(b)
			inputs, _ := m.play(1500)
			for _, in := range inputs {
				s = checkClock(t, b, s, in)
			}
		}
	}
}

// in returns a system in a state of a machine cycle.
func in(chip, next int, cycle api.Cycle) api.System {
	return api.System{Core: api.Core{CPU: api.CPU{Chip: chip}, Cycle: cycle, Next: next}, PIC: pic.New()}
}

// halted returns a system that is in halt states, and accepts interrupts.
func halted() api.System {
	s := in(api.Chip8080, api.THalt, api.Cycle{Kind: api.CycFetch, States: 4})
	s.Core.CPU.IE, s.Core.CPU.Halted = true, true
	return s
}

// P25.2: the request lines reach the controller in every state, and the processor in the same state. With Jam, only line
// 0 counts, and the controller stays as it is.
func TestRequests(t *testing.T) {
	for _, x := range []struct {
		jam      bool
		p        api.PIC
		requests byte
		after    api.PIC
		source   int
	}{
		{false, api.PIC{Lowest: 7}, 0x08, api.PIC{Lowest: 7, Lines: 8, Edge: 8}, api.FromIntr},
		{false, api.PIC{Lowest: 7}, 0x01, api.PIC{Lowest: 7, Lines: 1, Edge: 1}, api.FromIntr},
		{false, api.PIC{Lowest: 7}, 0x00, api.PIC{Lowest: 7}, api.FromNone},
		{false, api.PIC{Lowest: 7, Lines: 8}, 0x08, api.PIC{Lowest: 7, Lines: 8}, api.FromNone},
		{false, api.PIC{Lowest: 7, Lines: 8, Edge: 8}, 0x00, api.PIC{Lowest: 7}, api.FromNone},
		{false, api.PIC{Lowest: 7, IMR: 8}, 0x08, api.PIC{Lowest: 7, IMR: 8, Lines: 8, Edge: 8}, api.FromNone},
		{false, api.PIC{Lowest: 7, Level: true, Lines: 8}, 0x08, api.PIC{Lowest: 7, Level: true, Lines: 8}, api.FromIntr},
		{true, api.PIC{Lowest: 7}, 0x01, api.PIC{Lowest: 7}, api.FromIntr},
		{true, api.PIC{Lowest: 7}, 0xFF, api.PIC{Lowest: 7}, api.FromIntr},
		{true, api.PIC{Lowest: 7, Lines: 8, Edge: 8}, 0xFE, api.PIC{Lowest: 7, Lines: 8, Edge: 8}, api.FromNone},
	} {
		b, s := ram(api.Chip8080), halted()
		b.Jam, s.PIC = x.jam, x.p
		if after, _ := board.Clock(b, s, api.Input{Requests: x.requests}); after.PIC != x.after || after.Core.Source != x.source {
			t.Errorf("%+v: the controller is %+v, and the source %d", x, after.PIC, after.Core.Source)
		}
		for _, next := range states {
			s.Core.Next = next
			if after, _ := board.Clock(b, s, api.Input{Requests: x.requests, Reset: true}); after.PIC != x.after {
				t.Errorf("%+v: the controller is %+v in the state %d with RESET", x, after.PIC, next)
			}
		}
	}
}

// P25.2: HOLD comes from outside or from the DMA master, as it was before the state.
func TestHoldOfTheMaster(t *testing.T) {
	for _, x := range []struct {
		hold bool
		left int
		want bool
	}{
		{false, 0, false}, {true, 0, true}, {false, 1, true}, {true, 1, true}, {false, math.MaxInt, true}, {false, -1, false}, {true, -1, true}, {false, math.MinInt, false},
	} {
		s := in(api.Chip8080, api.T2, api.Cycle{Kind: api.CycRead, States: 3})
		s.DMA.Left = x.left
		if after, _ := board.Clock(ram(api.Chip8080), s, api.Input{Ready: true, Hold: x.hold}); after.Core.Hold != x.want || after.DMA.Left != x.left {
			t.Errorf("%+v: HOLD is %t, and %d are left", x, after.Core.Hold, after.DMA.Left)
		}
	}
}

// P25.2: the wait states of all kinds of cycles, with a region that has 3, ports that have 5, and T2 or the wait state
// with the number waited.
func TestNeededWaits(t *testing.T) {
	b := ram(api.Chip8080)
	b.Regions, b.IOWaits = []api.Region{{From: 0x1000, To: 0x1FFF, Waits: 3}, {From: 0x1800, To: 0x2FFF, Waits: 9}}, 5
	for _, kind := range kinds {
		for _, at := range []uint16{0x0FFF, 0x1000, 0x1FFF, 0x2000, 0x3000} {
			need := 0
			switch kind {
			case api.CycFetch, api.CycRead, api.CycWrite, api.CycPop, api.CycPush:
				need = map[uint16]int{0x1000: 3, 0x1FFF: 3, 0x2000: 9}[at]
			case api.CycIn, api.CycOut:
				need = 5
			}
			checkWaits(t, b, api.Cycle{Kind: kind, At: at, States: 3}, need)
		}
	}
}

// checkWaits clocks a cycle from T2 on, and checks that it has need wait states, or more if READY is low longer.
func checkWaits(t *testing.T, b api.Board, cycle api.Cycle, need int) {
	t.Helper()
	ignores := cycle.Kind == api.CycHalt || cycle.Kind == api.CycIdle || cycle.Kind == api.CycRst
	for _, low := range []int{0, 1, need, need + 1, need + 4} {
		s := in(api.Chip8080, api.T2, cycle)
		s.Waited = 77
		n := 0
		for ; n == 0 || s.Core.Next == api.TWait && n < 200; n++ {
			s, _ = board.Clock(b, s, api.Input{Ready: n >= low})
			if s.Waited != n {
				t.Errorf("Waited is %d after %d states of %+v", s.Waited, n, cycle)
			}
		}
		want := max(need, low)
		if ignores {
			want = 0
		}
		if n-1 != want || s.Core.Next != api.T3 {
			t.Errorf("%+v has %d wait states with READY low for %d states, want %d", cycle, n-1, low, want)
		}
		if s, _ = board.Clock(b, s, api.Input{Ready: true}); s.Waited != 0 {
			t.Errorf("Waited is %d after T3", s.Waited)
		}
	}
}

// P25.2: wait states out of range, of boards that are not valid.
func TestWaitsOutOfRange(t *testing.T) {
	for _, x := range []struct{ waits, need int }{
		{-1, 0}, {math.MinInt, 0}, {0, 0}, {1, 1}, {99, 99}, {100, 100}, {101, 100}, {1 << 32, 100}, {math.MaxInt, 100},
	} {
		b := ram(api.Chip8080)
		b.IOWaits, b.Regions[0].Waits = x.waits, x.waits
		for _, kind := range []int{api.CycIn, api.CycOut, api.CycFetch, api.CycPush} {
			checkWaits(t, b, api.Cycle{Kind: kind, At: 0x1111, States: 4}, x.need)
		}
	}
}

// P25.2: the number of wait states wraps around, and is 0 in all states but TWait.
func TestWaited(t *testing.T) {
	b := ram(api.Chip8080)
	b.Regions[0].Waits = 2
	for _, x := range []struct {
		waited, after int
		ready         bool
	}{
		{0, 1, false}, {1, 2, true}, {2, 3, true}, {-1, 0, false}, {-7, -6, false}, {math.MaxInt - 1, math.MaxInt, true},
		{math.MaxInt, math.MinInt, false}, {math.MinInt, math.MinInt + 1, false},
	} {
		for _, next := range states {
			s := in(api.Chip8080, next, api.Cycle{Kind: api.CycRead, States: 3})
			s.Waited = x.waited
			want := 0
			if next == api.TWait {
				want = x.after
			}
			for _, reset := range []bool{false, true} {
				after, _ := board.Clock(b, s, api.Input{Ready: true, Reset: reset})
				if after.Waited != want {
					t.Errorf("Waited becomes %d from %d in the state %d, want %d", after.Waited, x.waited, next, want)
				}
				if next == api.TWait && !reset && (after.Core.Next == api.T3) != x.ready {
					t.Errorf("the state %d follows the wait state with %d before it", after.Core.Next, x.waited)
				}
			}
		}
	}
}

// P25.2: the levels of SID, TRAP and the RST lines reach the processor.
func TestOtherLevels(t *testing.T) {
	rim := in(api.Chip8085, api.T4, api.Cycle{Kind: api.CycFetch, Data: 0x20, States: 4})
	rim.Core.Got = []byte{0x20}
	for _, x := range []struct {
		in       api.Input
		a        byte
		source   int
		r75, was bool
	}{
		{api.Input{}, 0x00, 0, false, false}, {api.Input{Sid: true}, 0x80, 0, false, false}, {api.Input{R75: true}, 0x40, 0, true, true},
		{api.Input{R65: true}, 0x20, 0, false, false}, {api.Input{R55: true}, 0x10, 0, false, false}, {api.Input{Trap: true}, 0x00, api.FromTrap, false, false},
	} {
		after, _ := board.Clock(ram(api.Chip8085), rim, x.in)
		if c := after.Core; c.CPU.Regs.A != x.a || c.Source != x.source || c.CPU.R75 != x.r75 || c.CPU.Was75 != x.was || c.CPU.WasTrap != x.in.Trap {
			t.Errorf("RIM with %+v leads to %+v", x.in, c)
		}
	}
}

// P25.2: the byte on the bus, for all kinds of cycles in all states. The memory has 0x11 at 0x3344, port 0x44 is outside
// with the byte 0x99, and the controller, at its first pulse, has 0xCD.
func TestBytesOnTheBus(t *testing.T) {
	for _, kind := range kinds {
		for _, next := range states {
			for _, jam := range []bool{false, true} {
				for _, reset := range []bool{false, true} {
					s := in(api.Chip8080, next, api.Cycle{Kind: kind, At: 0x3344, Data: 0x77, States: 6})
					s.Memory, s.PIC = []api.Cell{{At: 0x3344, Val: 0x11}}, api.PIC{Lowest: 7, Lines: 4, Edge: 4}
					b := ram(api.Chip8080)
					b.Jam = jam
					want, p := byte(0x77), s.PIC
					if next == api.T3 && !reset {
						switch kind {
						case api.CycFetch, api.CycRead, api.CycPop:
							want = 0x11
						case api.CycIn:
							want = 0x99
						case api.CycAck, api.CycMore:
							if want = 0x99; !jam {
								want, p = 0xCD, api.PIC{Lowest: 7, Lines: 4, ISR: 4, Step: 1, Serving: 2}
							}
						}
					}
					after, pins := board.Clock(b, s, api.Input{Ready: true, Reset: reset, Requests: 4, Port: 0x99})
					if next == api.T3 && !reset && (after.Core.Cycle.Data != want || !bytes.Equal(after.Core.Got, []byte{want})) {
						t.Errorf("the kind %d has the byte %#02x with Jam %t, want %#02x", kind, after.Core.Cycle.Data, jam, want)
					}
					if next == api.T3 && !reset && want != 0x77 && pins.Data != want {
						t.Errorf("the kind %d shows %#02x", kind, pins.Data)
					}
					if after.PIC != p {
						t.Errorf("the kind %d in the state %d with Jam %t and RESET %t leads to the controller %+v, want %+v", kind, next, jam, reset, after.PIC, p)
					}
				}
			}
		}
	}
}

// P25.2: memory is read by the map: ROM is read like RAM, and where there is no region the byte is 0xFF.
func TestReadsOfTheMap(t *testing.T) {
	b := api.Board{Chip: api.Chip8085, Regions: []api.Region{{From: 0x1000, To: 0x1FFF}, {From: 0x2000, To: 0x2FFF, RAM: true}}}
	for at, want := range map[uint16]byte{0x0FFF: 0xFF, 0x1000: 1, 0x1FFF: 2, 0x2000: 3, 0x2FFF: 0, 0x3000: 0xFF} {
		s := in(api.Chip8085, api.T3, api.Cycle{Kind: api.CycPop, At: at, States: 4})
		s.Memory = []api.Cell{{At: 0x0FFF, Val: 9}, {At: 0x1000, Val: 1}, {At: 0x1FFF, Val: 2}, {At: 0x2000, Val: 3}, {At: 0x3000, Val: 9}}
		if after, _ := board.Clock(b, s, api.Input{}); after.Core.Cycle.Data != want {
			t.Errorf("at %#04x there is %#02x, want %#02x", at, after.Core.Cycle.Data, want)
		}
	}
}

// portCase names what is at a port of a board.
type portCase struct {
	jam           bool
	pic, dma, at  byte
	who, register int // 0 outside, 1 the controller, 2 the DMA master
}

var portCases = []portCase{
	{false, 0x20, 0x40, 0x20, 1, 0}, {false, 0x20, 0x40, 0x21, 1, 1}, {false, 0x20, 0x40, 0x22, 0, 0}, {false, 0x20, 0x40, 0x1F, 0, 0},
	{false, 0x20, 0x40, 0x3F, 0, 0}, {false, 0x20, 0x40, 0x40, 2, 0}, {false, 0x20, 0x40, 0x41, 2, 1}, {false, 0x20, 0x40, 0x42, 2, 2},
	{false, 0x20, 0x40, 0x43, 2, 3}, {false, 0x20, 0x40, 0x44, 0, 0}, {true, 0x20, 0x40, 0x20, 0, 0}, {true, 0x20, 0x40, 0x21, 0, 0}, {true, 0x20, 0x40, 0x43, 2, 3},
	// The ports wrap around.
	{false, 0xFF, 0x40, 0xFF, 1, 0}, {false, 0xFF, 0x40, 0x00, 1, 1}, {false, 0xFF, 0x40, 0x01, 0, 0}, {false, 0x20, 0xFE, 0xFE, 2, 0},
	{false, 0x20, 0xFE, 0xFF, 2, 1}, {false, 0x20, 0xFE, 0x00, 2, 2}, {false, 0x20, 0xFE, 0x01, 2, 3}, {false, 0x20, 0xFE, 0x02, 0, 0},
	// The controller comes before the DMA master, but not with Jam.
	{false, 0x40, 0x40, 0x40, 1, 0}, {false, 0x40, 0x40, 0x41, 1, 1}, {false, 0x40, 0x40, 0x42, 2, 2}, {false, 0x43, 0x40, 0x43, 1, 0},
	{false, 0x43, 0x40, 0x44, 1, 1}, {false, 0x3F, 0x40, 0x40, 1, 1}, {true, 0x40, 0x40, 0x40, 2, 0}, {true, 0x3F, 0x40, 0x40, 2, 0},
}

// P25.2: what IN reads. A read of the controller can change it: here it ends the polling.
func TestReadsOfPorts(t *testing.T) {
	for _, x := range portCases {
		s := in(api.Chip8080, api.T3, api.Cycle{Kind: api.CycIn, At: uint16(x.at) | 0x5500, States: 4})
		s.PIC, s.DMA = api.PIC{Lowest: 7, Poll: true, Lines: 2, Edge: 2, IMR: 0x80}, api.DMA{At: 0x1234, Value: 0x56, Left: -0x88}
		want, p := byte(0x99), s.PIC
		switch x.who {
		case 1:
			want = 0x80
			if x.register == 0 {
				want, p = 0x81, api.PIC{Lowest: 7, Lines: 2, ISR: 2, IMR: 0x80}
			}
		case 2:
			want = []byte{0x34, 0x12, 0x56, 0x78}[x.register]
		}
		if x.jam {
			p = s.PIC
		}
		b := ram(api.Chip8080)
		b.Jam, b.PicPort, b.DmaPort = x.jam, x.pic, x.dma
		after, _ := board.Clock(b, s, api.Input{Ready: true, Requests: 2, Port: 0x99})
		if after.Core.Cycle.Data != want || after.PIC != p || after.DMA != s.DMA || len(after.Outs) != 0 {
			t.Errorf("%+v: IN reads %#02x, want %#02x; the controller is %+v, want %+v", x, after.Core.Cycle.Data, want, after.PIC, p)
		}
	}
}

// P25.2: what OUT writes. Every byte is an output, also one for a device.
func TestWritesOfPorts(t *testing.T) {
	for _, x := range portCases {
		s := in(api.Chip8080, api.T3, api.Cycle{Kind: api.CycOut, At: uint16(x.at) | 0x5500, Data: 0x0B, States: 3})
		s.DMA, s.Outs = api.DMA{At: 0x1234, Value: 0x56}, []api.Output{{Port: 1, Val: 2}}
		p, d := s.PIC, s.DMA
		switch x.who*10 + x.register {
		case 10:
			p.ReadISR = true
		case 11:
			p.IMR = 0x0B
		case 20:
			d.At = 0x120B
		case 21:
			d.At = 0x0B34
		case 22:
			d.Value = 0x0B
		case 23:
			d.Left = 0x0B
		}
		b := ram(api.Chip8080)
		b.Jam, b.PicPort, b.DmaPort = x.jam, x.pic, x.dma
		for _, next := range []int{api.T3, api.T2, api.TWait, api.T4} {
			s.Core.Next = next
			after, _ := board.Clock(b, s, api.Input{Ready: true})
			if next != api.T3 {
				p, d = s.PIC, s.DMA
			}
			outs := []api.Output{{Port: 1, Val: 2}, {Port: x.at, Val: 0x0B}}
			if next != api.T3 {
				outs = outs[:1]
			}
			if after.PIC != p || after.DMA != d || !slices.Equal(after.Outs, outs) {
				t.Errorf("%+v: OUT in the state %d leads to %+v, %+v and %v, want %+v, %+v and %v", x, next, after.PIC, after.DMA, after.Outs, p, d, outs)
			}
		}
	}
}

// P25.2: the cycles that write memory, in T3 alone, and not with RESET. A memory that is not written stays as it is.
func TestWritesOfMemory(t *testing.T) {
	areas := []api.Region{{From: 0x0000, To: 0x0FFF}, {From: 0x0000, To: 0x1FFF, RAM: true}}
	list := []api.Cell{{At: 9, Val: 1}, {At: 1, Val: 2}, {At: 3, Val: 0}}
	for _, x := range []struct {
		at   uint16
		want []api.Cell
	}{
		{0x1005, []api.Cell{{At: 1, Val: 2}, {At: 9, Val: 1}, {At: 0x1005, Val: 7}}},
		{0x0005, []api.Cell{{At: 1, Val: 2}, {At: 9, Val: 1}}}, {0x2000, []api.Cell{{At: 1, Val: 2}, {At: 9, Val: 1}}},
	} {
		for _, kind := range kinds {
			for _, next := range states {
				for _, reset := range []bool{false, true} {
					s := in(api.Chip8085, next, api.Cycle{Kind: kind, At: x.at, Data: 7, States: 3})
					s.Memory = list
					want := list
					if (kind == api.CycWrite || kind == api.CycPush) && next == api.T3 && !reset {
						want = x.want
					}
					after, _ := board.Clock(api.Board{Chip: api.Chip8085, Regions: areas}, s, api.Input{Ready: true, Reset: reset})
					if !slices.Equal(after.Memory, want) {
						t.Errorf("the kind %d in the state %d leads to %v, want %v", kind, next, after.Memory, want)
					}
				}
			}
		}
	}
}

// P25.2: the DMA master writes a cell in each hold state, also in the one in which HOLD is not sampled any more.
func TestTransfers(t *testing.T) {
	b := ram(api.Chip8080)
	b.Regions = []api.Region{{From: 0xFFFE, To: 0xFFFF, RAM: true}, {From: 0x0000, To: 0x0FFF}}
	s := in(api.Chip8080, api.THold, api.Cycle{Kind: api.CycFetch, States: 4})
	s.DMA, s.Memory = api.DMA{At: 0xFFFE, Value: 5, Left: 3}, []api.Cell{{At: 7, Val: 7}}
	for i, want := range []struct {
		d    api.DMA
		m    []api.Cell
		next int
	}{
		{api.DMA{At: 0xFFFF, Value: 5, Left: 2}, []api.Cell{{At: 7, Val: 7}, {At: 0xFFFE, Val: 5}}, api.THold},
		{api.DMA{At: 0x0000, Value: 5, Left: 1}, []api.Cell{{At: 7, Val: 7}, {At: 0xFFFE, Val: 5}, {At: 0xFFFF, Val: 5}}, api.THold},
		{api.DMA{At: 0x0001, Value: 5, Left: 0}, []api.Cell{{At: 7, Val: 7}, {At: 0xFFFE, Val: 5}, {At: 0xFFFF, Val: 5}}, api.THold},
		{api.DMA{At: 0x0001, Value: 5, Left: 0}, []api.Cell{{At: 7, Val: 7}, {At: 0xFFFE, Val: 5}, {At: 0xFFFF, Val: 5}}, api.T1},
	} {
		var pins api.Pins
		s, pins = board.Clock(b, s, api.Input{Ready: true})
		if s.DMA != want.d || !slices.Equal(s.Memory, want.m) || s.Core.Next != want.next || !pins.Hlda {
			t.Errorf("%d: the hold state leads to %+v", i, s)
		}
	}
	for _, next := range states {
		s = in(api.Chip8080, next, api.Cycle{Kind: api.CycIdle, States: 4})
		s.DMA, s.Memory = api.DMA{At: 0xFFFE, Value: 5, Left: 3}, []api.Cell{{At: 8, Val: 8}, {At: 7, Val: 7}}
		after, _ := board.Clock(b, s, api.Input{Ready: true})
		if next != api.THold && (after.DMA != s.DMA || !slices.Equal(after.Memory, s.Memory)) {
			t.Errorf("a cell is written in the state %d: %+v", next, after)
		}
	}
}

// P25.2: RESET ends a transfer and a sequence of acknowledge pulses, in every state, and changes nothing else of the
// devices. No byte is read or written.
func TestResetOfTheDevices(t *testing.T) {
	for _, chip := range both {
		for _, next := range states {
			for _, kind := range kinds {
				s := in(chip, next, api.Cycle{Kind: kind, At: 0x2020, Data: 0x13, States: 3})
				s.DMA, s.PIC, s.Outs = api.DMA{At: 1, Value: 2, Left: 3}, api.PIC{Lowest: 4, Poll: true, Step: 2, Serving: 5, Spurious: true, ISR: 6}, []api.Output{{Port: 1, Val: 1}}
				after, pins := board.Clock(ram(chip), s, api.Input{Ready: true, Reset: true})
				s.DMA.Left, s.PIC.Step = 0, 0
				if after.DMA != s.DMA || after.PIC != s.PIC || len(after.Memory) != 0 || !slices.Equal(after.Outs, s.Outs) || pins.State != api.TReset || after.Core.Next != api.T1 {
					t.Errorf("RESET in the state %d of the kind %d leads to %+v", next, kind, after)
				}
			}
		}
	}
}

// clones returns a board and a system that share nothing with the arguments, with spare capacity in their lists.
func clones(b api.Board, s api.System) (api.Board, api.System) {
	b.Regions = append(slices.Clone(b.Regions), api.Region{From: 1, To: 2}, api.Region{From: 3, To: 4})[:len(b.Regions)]
	b.Image = append(slices.Clone(b.Image), api.Cell{At: 5, Val: 6}, api.Cell{At: 7, Val: 8})[:len(b.Image)]
	s.Memory = append(slices.Clone(s.Memory), api.Cell{At: 5, Val: 6}, api.Cell{At: 7, Val: 8})[:len(s.Memory)]
	s.Outs = append(slices.Clone(s.Outs), api.Output{Port: 1, Val: 2}, api.Output{Port: 3, Val: 4})[:len(s.Outs)]
	s.Core.Got = append(slices.Clone(s.Core.Got), 1, 2, 3)[:len(s.Core.Got)]
	return b, s
}

// overwrite changes a list with its spare capacity.
func overwrite[T any](l []T, v T) {
	l = l[:cap(l)]
	for i := range l {
		l[i] = v
	}
}

// overwriteSystem changes all lists of a system.
func overwriteSystem(s api.System) {
	overwrite(s.Memory, api.Cell{At: 0x5555, Val: 0x55})
	overwrite(s.Outs, api.Output{Port: 0x55, Val: 0x55})
	overwrite(s.Core.Got, 0x55)
}

// full returns a list with its spare capacity.
func full[T any](l []T) []T { return l[:cap(l)] }

// P25.2 and R2: the arguments stay as they are, also in the spare capacity, whatever happens to the results.
func TestClockLeavesItsArguments(t *testing.T) {
	m := newMaker()
	for range 20000 {
		b, s := clones(m.board(m.one(both)), m.system(m.one(both)))
		s.Core.Next, s.Core.Cycle.Kind = m.one([]int{api.T3, api.T3, api.T3, api.T4, api.THold}), m.one(kinds[:12])
		keptBoard, kept := b, s
		keptBoard.Regions, keptBoard.Image = slices.Clone(full(b.Regions)), slices.Clone(full(b.Image))
		kept.Memory, kept.Outs, kept.Core.Got = slices.Clone(full(s.Memory)), slices.Clone(full(s.Outs)), slices.Clone(full(s.Core.Got))
		input := m.input()
		after, _ := board.Clock(b, s, input)
		overwriteSystem(after)
		if !slices.Equal(full(b.Regions), keptBoard.Regions) || !slices.Equal(full(b.Image), keptBoard.Image) {
			t.Fatalf("the board turns into %+v", b)
		}
		if !slices.Equal(full(s.Memory), kept.Memory) || !slices.Equal(full(s.Outs), kept.Outs) || !bytes.Equal(full(s.Core.Got), kept.Core.Got) {
			t.Fatalf("the system turns into %+v", s)
		}
		after, _ = board.Clock(b, s, input)
		overwriteSystem(s)
		s.Memory, s.Outs, s.Core.Got = kept.Memory[:len(s.Memory)], kept.Outs[:len(s.Outs)], kept.Core.Got[:len(s.Core.Got)]
		if want := clocked(b, s, input).after; !sameSystem(after, want) {
			t.Fatalf("the result turns into %+v, want %+v", after, want)
		}
	}
}

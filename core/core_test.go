package core_test

import (
	"slices"
	"testing"

	"tstate/api"
	"tstate/core"
	"tstate/irq"
	"tstate/micro"
)

// P20.1: the core at the beginning, on all chips.
func TestNew(t *testing.T) {
	for _, chip := range chips {
		want := api.Core{CPU: api.CPU{Chip: chip}, Cycle: api.Cycle{Kind: api.CycFetch, At: 0, Data: 0, States: 4}, Next: api.T1}
		if chip == api.Chip8085 {
			want.CPU.Mask = 7
		}
		got := core.New(chip)
		if !same(got, want) {
			t.Errorf("New(%d) = %+v, want %+v", chip, got, want)
		}
		first, _ := micro.Next(got.CPU, api.FromNone, nil)
		if got.Cycle != first || got.CPU != irq.Reset(api.CPU{Chip: chip}) || core.Busy(got) {
			t.Errorf("New(%d) = %+v begins with another cycle or CPU, or is busy", chip, got)
		}
	}
}

// P20.1: Busy for all states, with and without bytes and sources. The other fields do not matter.
func TestBusy(t *testing.T) {
	within := []int{api.T2, api.T3, api.T4, api.T5, api.T6, api.TWait}
	m := newMaker()
	for _, next := range states {
		for _, source := range sources {
			for n := range 3 {
				c := m.core(m.one(chips))
				c.Next, c.Source, c.Got = next, source, m.bytes(n)
				want := slices.Contains(within, next) || n > 0 || source != api.FromNone
				if got := core.Busy(c); got != want {
					t.Errorf("Busy(%+v) = %t", c, got)
				}
			}
		}
	}
	if core.Busy(api.Core{Got: []byte{}}) || core.Busy(api.Core{Got: make([]byte, 0, 5)}) {
		t.Error("an empty list of bytes counts as bytes")
	}
}

// P20.1: Accepts for all kinds and for numbers that are no kinds.
func TestAccepts(t *testing.T) {
	for _, kind := range kinds {
		want := kind != api.CycHalt && kind != api.CycIdle && kind != api.CycRst
		if got := core.Accepts(kind); got != want {
			t.Errorf("Accepts(%d) = %t", kind, got)
		}
	}
}

// P20.2, R1 and R5: all values of Next with all kinds of cycles on all chips, and any values of the other fields.
func TestClockOfAllStates(t *testing.T) {
	m := newMaker()
	for _, chip := range chips {
		for _, next := range states {
			for _, kind := range kinds {
				for n := range 40 {
					c, l := m.core(chip), m.lines()
					c.Next, c.Cycle.Kind = next, kind
					l.Reset = n == 0
					checkClock(t, c, l, m.byte())
				}
			}
		}
	}
}

// P20.2: the ends of instructions of all opcodes and sources, from the last state on, with all levels.
func TestClockAtBoundaries(t *testing.T) {
	m := newMaker()
	for _, chip := range both {
		for op := range 256 {
			for _, source := range sources {
				for range 4 {
					c, got := m.cpu(chip), m.bytes(6)
					got[0] = byte(op)
					n := 1
					for _, more := micro.Next(c, source, got[:n]); more; _, more = micro.Next(c, source, got[:n]) {
						n++
					}
					x := api.Core{CPU: c, Source: source, Got: got[:n], Cycle: api.Cycle{Kind: m.one(kinds), States: 3 + m.IntN(4)}, Hold: m.bool()}
					x.Next = max(x.Cycle.States, api.T4)
					checkClock(t, x, m.lines(), m.byte())
					x.Got, x.Next, x.Cycle.Kind = got[:n-1], api.T3, api.CycRead
					checkClock(t, x, m.lines(), got[n-1])
				}
			}
		}
	}
}

// P20.2: long runs with random levels on random bytes.
func TestClockInRuns(t *testing.T) {
	m := newMaker()
	for _, chip := range []int{api.Chip8080, api.Chip8085, api.Chip8085, 0} {
		for range 40 {
			c := core.New(chip)
			for range 1500 {
				l := m.lines()
				l.Ready, l.Hold, l.Reset = m.IntN(4) > 0, m.IntN(6) == 0, m.IntN(200) == 0
				l.Intr, l.R65, l.R55 = m.IntN(20) == 0, m.IntN(20) == 0, m.IntN(20) == 0
				data := m.byte()
				if m.IntN(6) == 0 {
					data = 0xFB // Ei, so that interrupts are served
				}
				c = checkClock(t, c, l, data)
			}
		}
	}
}

// P20.2: RESET in every state, with any other levels. The registers without PC stay.
func TestReset(t *testing.T) {
	m := newMaker()
	for _, chip := range chips {
		for _, next := range states {
			for range 20 {
				c, l := m.core(chip), m.lines()
				c.Next, l.Reset = next, true
				want := core.New(chip)
				want.CPU.Regs = c.CPU.Regs
				want.CPU.Regs.PC = 0
				got, pins := core.Clock(c, l, m.byte())
				if !same(got, want) || pins.State != api.TReset {
					t.Fatalf("RESET leads from %+v to %+v, want %+v", c, got, want)
				}
				if again, _ := core.Clock(got, l, m.byte()); !same(again, want) {
					t.Fatalf("a second state of RESET leads to %+v, want %+v", again, want)
				}
			}
		}
	}
}

// P20.2: Next and Hold after each state of a cycle, spelled out.
func TestNextStates(t *testing.T) {
	ready, held := api.Lines{Ready: true}, api.Lines{Ready: true, Hold: true}
	for _, x := range []struct {
		kind, states, from int
		hold               bool
		l                  api.Lines
		next               int
		after              bool
	}{
		{api.CycRead, 3, api.T1, false, held, api.T2, false}, {api.CycRead, 3, api.T1, true, ready, api.T2, true},
		{api.CycRead, 3, api.T2, false, ready, api.T3, false}, {api.CycRead, 3, api.T2, false, held, api.T3, true}, {api.CycRead, 3, api.T2, true, ready, api.T3, false},
		{api.CycRead, 3, api.T2, false, api.Lines{Hold: true}, api.TWait, false}, {api.CycRead, 3, api.T2, true, api.Lines{}, api.TWait, true},
		{api.CycRead, 3, api.TWait, false, api.Lines{Hold: true}, api.TWait, false}, {api.CycRead, 3, api.TWait, false, held, api.T3, true}, {api.CycRead, 3, api.TWait, true, ready, api.T3, false},
		{api.CycIdle, 3, api.T2, false, api.Lines{Hold: true}, api.T3, true}, {api.CycHalt, 3, api.T2, true, api.Lines{}, api.T3, false}, {api.CycRst, 6, api.TWait, false, api.Lines{}, api.T3, false},
		{api.CycRead, 3, api.T3, false, held, api.T1, false}, {api.CycRead, 3, api.T3, true, ready, api.THold, false}, {api.CycRead, 4, api.T3, true, ready, api.T4, true},
		{api.CycRead, 0, api.T3, false, ready, api.T1, false}, {api.CycRead, -1, api.T3, false, ready, api.T1, false},
		{api.CycRead, 4, api.T4, false, held, api.T1, false}, {api.CycRead, 5, api.T4, true, ready, api.T5, true}, {api.CycRead, 4, api.T4, true, ready, api.THold, false},
		{api.CycRead, 5, api.T5, false, held, api.T1, false}, {api.CycRead, 6, api.T5, true, ready, api.T6, true}, {api.CycRead, 5, api.T5, true, ready, api.THold, false},
		{api.CycRead, 6, api.T6, false, held, api.T1, false}, {api.CycRead, 7, api.T6, false, ready, api.T1, false}, {api.CycRead, 99, api.T6, true, ready, api.THold, false},
		{api.CycRead, 3, api.THold, false, held, api.THold, false}, {api.CycRead, 3, api.THold, true, held, api.THold, true}, {api.CycRead, 3, api.THold, true, ready, api.T1, true},
		{api.CycRead, 3, api.THalt, false, ready, api.THalt, false}, {api.CycRead, 3, api.THalt, true, held, api.THold, true},
		{api.CycRead, 3, 0, false, held, api.T2, false}, {api.CycRead, 3, api.TReset, false, held, api.T2, false}, {api.CycRead, 3, -3, true, api.Lines{}, api.T2, true},
	} {
		for _, chip := range both {
			// The instruction is one whose next cycle is there or not, which does not matter for Next.
			for _, got := range [][]byte{{0x3E}, {0x3A, 0x00}} {
				c := api.Core{CPU: api.CPU{Chip: chip}, Got: got, Cycle: api.Cycle{Kind: x.kind, States: x.states}, Next: x.from, Hold: x.hold}
				after, _ := core.Clock(c, x.l, 0)
				if after.Next != x.next || after.Hold != x.after {
					t.Errorf("%+v with %+v leads to Next %d and Hold %t, want %d and %t", c, x.l, after.Next, after.Hold, x.next, x.after)
				}
			}
		}
	}
}

// P20.2: the byte of a cycle, and the number of states of the first one.
func TestBytesOfCycles(t *testing.T) {
	for _, x := range []struct {
		chip, kind int
		data       byte
		want       byte
		states     int
	}{
		{1, api.CycFetch, 0x41, 0x41, 5}, {2, api.CycFetch, 0x41, 0x41, 4}, {1, api.CycFetch, 0xCD, 0xCD, 5}, {2, api.CycFetch, 0xCD, 0xCD, 6},
		{1, api.CycAck, 0xFF, 0xFF, 5}, {2, api.CycAck, 0xFF, 0xFF, 6}, {2, api.CycAck, 0x76, 0x76, 5}, {0, api.CycFetch, 0x76, 0x76, 4},
		{1, api.CycRead, 0x41, 0x41, 6}, {1, api.CycPop, 0xCD, 0xCD, 6}, {2, api.CycIn, 0xCD, 0xCD, 6}, {2, api.CycMore, 0x41, 0x41, 6},
		{1, api.CycWrite, 0x41, 0x77, 6}, {1, api.CycPush, 0x41, 0x77, 6}, {2, api.CycOut, 0x41, 0x77, 6},
		{1, api.CycHalt, 0x41, 0x77, 6}, {1, api.CycIdle, 0x41, 0x77, 6}, {2, api.CycRst, 0x41, 0x77, 6}, {2, 0, 0x41, 0x77, 6}, {2, -8, 0x41, 0x77, 6},
	} {
		c := api.Core{CPU: api.CPU{Chip: x.chip}, Got: []byte{1, 2}, Cycle: api.Cycle{Kind: x.kind, At: 0x1234, Data: 0x77, States: 6}, Next: api.T3}
		after, _ := core.Clock(c, api.Lines{}, x.data)
		want := api.Core{CPU: c.CPU, Got: []byte{1, 2, x.want}, Cycle: api.Cycle{Kind: x.kind, At: 0x1234, Data: x.want, States: x.states}, Next: api.T4}
		if !same(after, want) {
			t.Errorf("T3 of %+v with %#02x leads to %+v, want %+v", c, x.data, after, want)
		}
	}
}

// R2: the bytes of a core and what lies behind them are neither changed nor kept, in any state.
func TestClockSharesNothing(t *testing.T) {
	m := newMaker()
	for _, chip := range both {
		for _, next := range states {
			for n := range 200 {
				room := m.bytes(12)
				before := slices.Clone(room)
				c, l := m.core(chip), m.lines()
				c.Got, c.Next, l.Reset = room[2:2+n%6], next, n%20 == 19
				first, _ := core.Clock(c, l, m.byte())
				second, _ := core.Clock(first, m.lines(), m.byte())
				if !slices.Equal(room, before) {
					t.Fatalf("Clock(%+v) changes the bytes % x to % x", c, before, room)
				}
				wanted := slices.Clone(second.Got)
				fill(room, 0xA5)
				fill(first.Got[:cap(first.Got)], 0x5A)
				if !slices.Equal(second.Got, wanted) {
					t.Fatalf("the bytes % x of the core after %+v are shared", wanted, c)
				}
				for _, b := range room {
					if b != 0xA5 {
						t.Fatalf("the core after %+v shares memory with it", c)
					}
				}
			}
		}
	}
}

// fill sets all bytes.
func fill(l []byte, b byte) {
	for i := range l {
		l[i] = b
	}
}

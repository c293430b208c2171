package boundary_test

import (
	"slices"
	"testing"

	"tstate/api"
	"tstate/boundary"
	"tstate/memory"
)

// cells makes a list of pairs of an address and a byte.
func cells(pairs ...int) (l []api.Cell) {
	for i := 0; i < len(pairs); i += 2 {
		l = append(l, api.Cell{At: uint16(pairs[i]), Val: byte(pairs[i+1])})
	}
	return l
}

// P27.3: a list with all kinds of events, spelled out.
func TestReplay(t *testing.T) {
	want, before := []api.CPU{}, example(api.Chip8085)
	var events []api.Event
	add := func(e api.Event, change func(c *api.CPU)) {
		change(&before)
		events, want = append(events, e), append(want, before)
	}
	nothing := func(c *api.CPU) {}
	add(event(api.EvInstr, 0, 0x3E, 5), func(c *api.CPU) { c.Regs.A, c.Regs.PC = 5, 0x0102 })
	add(stored(0x0102, 0x76), nothing)
	add(event(api.EvInstr, 0, 0x3C), func(c *api.CPU) { c.Regs.A, c.Regs.F.P, c.Regs.PC = 6, true, 0x0103 })
	add(event(api.EvInternal, api.FromTrap, 0, 1, 3), func(c *api.CPU) { c.Regs.SP, c.Regs.PC, c.IE, c.Saved, c.SavedIE = 0x6FFE, 0x0024, false, true, true })
	add(event(api.EvInstr, 0, 0x20), func(c *api.CPU) { c.Regs.A, c.Regs.PC, c.Saved, c.SavedIE = 0x0D, 0x0025, false, false })
	add(event(api.EvInstr, 0, 0xFB), func(c *api.CPU) { c.Regs.PC, c.IE, c.Delay = 0x0026, true, true })
	add(event(api.EvInstr, 0, 0x76), func(c *api.CPU) { c.Regs.PC, c.Delay, c.Halted = 0x0027, false, true })
	add(event(api.EvInject, api.FromIntr, 0x3E, 9), func(c *api.CPU) { c.Regs.A, c.IE, c.Halted = 9, false, false })
	add(event(api.EvCut, 0, 0x3E, 7), nothing)
	add(event(api.EvReset, 0), func(c *api.CPU) { c.Regs.PC, c.Mask = 0, 7 })
	add(event(api.EvReset, 0), nothing)
	add(event(8, 0, 0x3E, 7), nothing)
	add(event(api.EvInstr, 0, 0x04), func(c *api.CPU) { c.Regs.B, c.Regs.F.P, c.Regs.PC = 0x13, false, 1 })
	add(event(api.EvOpen, 0, 0x3E), nothing)
	got := boundary.Replay(example(api.Chip8085), events)
	if len(got) != len(want) {
		t.Fatalf("%d events have %d states", len(events), len(got))
	}
	for i := range want {
		if got[i] != want[i] {
			t.Errorf("the event %d, %+v, leads to %+v, want %+v", i, events[i], got[i], want[i])
		}
	}
}

// P27.3
func TestReplayOfNothing(t *testing.T) {
	for _, l := range [][]api.Event{nil, {}} {
		if got := boundary.Replay(example(api.Chip8085), l); len(got) != 0 {
			t.Errorf("no event leads to %+v", got)
		}
	}
}

// P27.3 and R1: any lists, and the states of a part of a list, which begin where those of the part before end.
func TestReplayOfAnyEvents(t *testing.T) {
	m := newMaker()
	for range 5000 {
		c, l := m.cpu(m.one(chips)), m.events(20)
		got := boundary.Replay(c, l)
		if want := replayed(c, l); !slices.Equal(got, want) {
			t.Fatalf("Replay(%+v, %+v) = %+v, want %+v", c, l, got, want)
		}
		if n := len(l) / 2; n > 0 {
			parts := slices.Concat(boundary.Replay(c, l[:n]), boundary.Replay(got[n-1], l[n:]))
			if !slices.Equal(parts, got) {
				t.Fatalf("Replay(%+v, %+v) = %+v, and in two parts %+v", c, l, got, parts)
			}
		}
	}
}

// P27.3: what events write, spelled out. RAM is at 0x3000 to 0x7FFF, but 0x5000 is ROM; SP is 0x7000, HL 0x3056.
func TestMemory(t *testing.T) {
	areas := []api.Region{{From: 0x5000, To: 0x5000}, {From: 0x3000, To: 0x7FFF, RAM: true, Waits: 9}, {From: 0x0000, To: 0x3FFF}}
	push, mov := event(api.EvInstr, 0, 0xC5, 9, 9), event(api.EvInstr, 0, 0x70, 9)
	for i, x := range []struct {
		l    []api.Event
		want []api.Cell
	}{
		{nil, nil},
		{[]api.Event{event(api.EvInstr, 0, 0x3E, 5)}, nil},
		{[]api.Event{push}, cells(0x6FFE, 0x34, 0x6FFF, 0x12)},
		{[]api.Event{push, push}, cells(0x6FFC, 0x34, 0x6FFD, 0x12, 0x6FFE, 0x34, 0x6FFF, 0x12)},
		{[]api.Event{mov}, cells(0x3056, 0x12)},
		{[]api.Event{event(api.EvInstr, 0, 0x06, 7), mov}, cells(0x3056, 7)},
		{[]api.Event{event(api.EvInstr, 0, 0x06, 0), mov}, nil},
		{[]api.Event{mov, event(api.EvInstr, 0, 0x06, 0), mov}, nil},
		{[]api.Event{event(api.EvInstr, 0, 0x34, 7, 0xEE)}, cells(0x3056, 8)},
		{[]api.Event{event(api.EvInstr, 0, 0x34, 7)}, nil},
		{[]api.Event{event(api.EvInstr, 0, 0x22, 0x00, 0x40, 9, 9)}, cells(0x4000, 0x56, 0x4001, 0x30)},
		{[]api.Event{event(api.EvInstr, 0, 0xCD, 0x34, 0x12, 9, 9), push}, cells(0x6FFC, 0x34, 0x6FFD, 0x12, 0x6FFE, 3, 0x6FFF, 1)},
		{[]api.Event{event(api.EvInject, api.FromIntr, 0xCD, 0x34, 0x12, 9, 9)}, cells(0x6FFF, 1)},
		{[]api.Event{event(api.EvInternal, api.From65, 0, 9, 9), push}, cells(0x6FFC, 0x34, 0x6FFD, 0x12, 0x6FFF, 1)},
		// Writes of instructions that are not complete, with the bytes whose T3 is over. They change no register.
		{[]api.Event{event(api.EvCut, 0, 0xC5, 9), event(api.EvReset, 0)}, cells(0x6FFF, 0x12)},
		{[]api.Event{event(api.EvOpen, api.FromTrap, 0, 9)}, cells(0x6FFF, 1)},
		{[]api.Event{event(api.EvOpen, 0, 0xC5)}, nil},
		{[]api.Event{event(api.EvCut, 0, 0xC5, 9, 9), event(api.EvReset, 0), event(api.EvInstr, 0, 0xD5, 9, 9)}, cells(0x6FFE, 0xFF, 0x6FFF, 0x1D)},
		// Ports, other kinds, and cells of other kinds write nothing.
		{[]api.Event{event(api.EvInstr, 0, 0xD3, 0x40, 9)}, nil},
		{[]api.Event{event(api.EvReset, 0, 0xC5, 9, 9), event(8, 0, 0xC5, 9, 9), event(0, 0, 0x70, 9)}, nil},
		{[]api.Event{{Kind: api.EvInstr, Cell: api.Cell{At: 0x4000, Val: 1}}, {Kind: api.EvReset, Cell: api.Cell{At: 0x4000, Val: 1}}, {Kind: 8, Cell: api.Cell{At: 0x4000, Val: 1}}}, nil},
		// Bytes of the DMA master, which has no machine cycles.
		{[]api.Event{stored(0x4000, 1), stored(0x4001, 2)}, cells(0x4000, 1, 0x4001, 2)},
		{[]api.Event{stored(0x4000, 1), stored(0x4000, 0)}, nil},
		{[]api.Event{{Kind: api.EvDma, Bytes: []byte{0xC5, 9, 9}, Cell: api.Cell{At: 0x4000, Val: 1}}}, cells(0x4000, 1)},
		{[]api.Event{push, stored(0x6FFF, 7)}, cells(0x6FFE, 0x34, 0x6FFF, 7)},
		{[]api.Event{stored(0x6FFF, 7), push}, cells(0x6FFE, 0x34, 0x6FFF, 0x12)},
		// ROM, ROM that covers RAM, and addresses without a region.
		{[]api.Event{stored(0x2FFF, 7), stored(0x5000, 7), stored(0x8000, 7), stored(0x3000, 6), stored(0x7FFF, 8)}, cells(0x3000, 6, 0x7FFF, 8)},
		{[]api.Event{event(api.EvInstr, 0, 0x22, 0xFF, 0x4F, 9, 9), event(api.EvInstr, 0, 0x32, 0x00, 0x80, 9)}, cells(0x4FFF, 0x56)},
		{[]api.Event{event(api.EvInstr, 0, 0x31, 0x01, 0x50), push}, cells(0x4FFF, 0x34)},
		{[]api.Event{event(api.EvInstr, 0, 0x31, 0x02, 0x50), push}, cells(0x5001, 0x12)},
	} {
		for _, chip := range both {
			start := cells(0x9000, 3, 0x0005, 2)
			want := memory.Normalize(append(cells(0x9000, 3, 0x0005, 2), x.want...))
			if got := boundary.Memory(example(chip), areas, start, x.l); !slices.Equal(got, want) {
				t.Errorf("%d: the memory is %v, want %v", i, got, want)
			}
		}
	}
}

// P27.3: the memory is normal, also if nothing is written. The last cell of an address counts.
func TestMemoryIsNormal(t *testing.T) {
	rom := []api.Region{{From: 0x0000, To: 0xFFFF}}
	for _, x := range []struct{ m, want []api.Cell }{
		{nil, nil},
		{[]api.Cell{}, nil},
		{cells(5, 0), nil},
		{cells(9, 1, 5, 2, 9, 3, 6, 0), cells(5, 2, 9, 3)},
		{cells(9, 1, 9, 0), nil},
	} {
		for _, l := range [][]api.Event{nil, {}, {event(api.EvInstr, 0, 0)}, {event(api.EvInstr, 0, 0xC5, 9, 9)}, {stored(9, 9)}, {event(8, 0)}} {
			for _, areas := range [][]api.Region{nil, rom} {
				if got := boundary.Memory(example(api.Chip8080), areas, x.m, l); !slices.Equal(got, x.want) {
					t.Errorf("Memory of %v with %+v is %v, want %v", x.m, l, got, x.want)
				}
			}
		}
	}
}

// P27.3 and R1: any lists on any memories and maps, and the memory of a part of a list, which goes on with that of the
// part before.
func TestMemoryOfAnyEvents(t *testing.T) {
	m := newMaker()
	changed := 0
	for range 4000 {
		c, areas, start, l := m.cpu(m.one(chips)), m.regions(), m.cells(), m.events(8)
		got := boundary.Memory(c, areas, start, l)
		if want := remaining(c, areas, start, l); !slices.Equal(got, want) {
			t.Fatalf("Memory(%+v, %+v, %v, %+v) = %v, want %v", c, areas, start, l, got, want)
		}
		if !slices.Equal(got, memory.Normalize(start)) {
			changed++
		}
		if n := len(l) / 2; n > 0 {
			states := boundary.Replay(c, l)
			parts := boundary.Memory(states[n-1], areas, boundary.Memory(c, areas, start, l[:n]), l[n:])
			if !slices.Equal(parts, got) {
				t.Fatalf("Memory(%+v, %+v, %v, %+v) = %v, and in two parts %v", c, areas, start, l, got, parts)
			}
		}
	}
	if changed < 1000 {
		t.Errorf("only %d lists change the memory", changed)
	}
}

// full returns a slice with its spare capacity.
func full[T any](l []T) []T { return l[:cap(l)] }

// overwrite changes all elements of a slice, also in its spare capacity.
func overwrite[T any](l []T, v T) {
	for i := range full(l) {
		full(l)[i] = v
	}
}

// R2: the arguments stay as they are, also in the spare capacity, whatever happens to the results, and the results stay as
// they are if the arguments change.
func TestArgumentsAndResultsAreApart(t *testing.T) {
	m := newMaker()
	for range 3000 {
		c, areas, start, l := m.cpu(m.one(both)), append(m.regions(), api.Region{To: 0xFFFF, RAM: true}), m.cells(), m.events(6)
		if m.bool() {
			start = memory.Normalize(start)
		}
		keptAreas, keptStart, keptEvents := slices.Clone(full(areas)), slices.Clone(full(start)), slices.Clone(full(l))
		var keptBytes [][]byte
		for _, e := range l {
			keptBytes = append(keptBytes, slices.Clone(full(e.Bytes)))
		}
		states, after := boundary.Replay(c, l), boundary.Memory(c, areas, start, l)
		var passed [][]api.Cycle
		for _, e := range l {
			passed = append(passed, boundary.Cycles(c, e))
		}
		keptStates, keptAfter := slices.Clone(states), slices.Clone(after)
		overwrite(states, api.CPU{})
		overwrite(after, api.Cell{At: 0x5555, Val: 0x55})
		for i, e := range l {
			overwrite(passed[i], api.Cycle{})
			if !slices.Equal(full(e.Bytes), keptBytes[i]) {
				t.Fatalf("the bytes of %+v change", e)
			}
		}
		same := slices.EqualFunc(full(l), keptEvents, func(a, b api.Event) bool { return a.Kind == b.Kind && a.Source == b.Source && a.Cell == b.Cell })
		if !slices.Equal(full(areas), keptAreas) || !slices.Equal(full(start), keptStart) || !same {
			t.Fatal("an argument changes")
		}
		states, after = boundary.Replay(c, l), boundary.Memory(c, areas, start, l)
		for _, e := range l {
			overwrite(e.Bytes, 0x76)
		}
		overwrite(l, api.Event{})
		overwrite(start, api.Cell{})
		overwrite(areas, api.Region{})
		if !slices.Equal(states, keptStates) || !slices.Equal(after, keptAfter) {
			t.Fatal("the results change with the arguments")
		}
	}
}

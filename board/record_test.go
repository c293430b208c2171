package board_test

import (
	"bytes"
	"slices"
	"testing"

	"tstate/api"
	"tstate/board"
	"tstate/irq"
	"tstate/micro"
	"tstate/pic"
)

// beginning is a model of the system of a board at its beginning.
func beginning(b api.Board) api.System {
	c := irq.Reset(api.CPU{Chip: b.Chip})
	return api.System{Core: api.Core{CPU: c, Cycle: api.Cycle{Kind: 1, States: 4}, Next: 1}, Memory: slices.Clone(b.Image), PIC: pic.New()}
}

// frames returns the clock states of a run.
func frames(b api.Board, inputs []api.Input) (l []frame) {
	s := beginning(b)
	for _, in := range inputs {
		f := clocked(b, s, in)
		l, s = append(l, f), f.after
	}
	return l
}

// wrote returns the byte that a machine cycle gets in its T3.
func (f frame) wrote() byte {
	switch c := f.before.Core.Cycle; c.Kind {
	case 1, 2, 4, 6, 8, 9:
		return f.pins.Data
	default:
		return c.Data
	}
}

// length returns the number of states of a machine cycle, as it is known after the state.
func (f frame) length() int {
	c := f.before.Core.Cycle
	if f.pins.State == 3 && (c.Kind == 1 || c.Kind == 8) {
		return micro.First(f.before.Core.CPU.Chip, f.pins.Data)
	}
	return c.States
}

// items is a model of the items of a run: it cuts the clock states into groups, and then looks at each group.
func items(l []frame) (out []api.Item) {
	for len(l) > 0 {
		n := 1
		for n < len(l) && together(l[n-1], l[n]) {
			n++
		}
		out = append(out, itemOf(l[:n]))
		l = l[n:]
	}
	return out
}

// together reports whether two neighbouring clock states belong to one item.
func together(a, b frame) bool {
	if b.pins.State <= 7 {
		return b.pins.State != 1
	}
	x, y := a.before.Core.CPU, b.before.Core.CPU
	return a.pins.State == b.pins.State && x.IE == y.IE && x.SOD == y.SOD
}

// itemOf is the item of a group of clock states.
func itemOf(l []frame) api.Item {
	c := l[0].before.Core.CPU
	out := api.Item{Inte: c.IE, Sod: c.SOD, N: len(l)}
	switch l[0].pins.State {
	case 8:
		out.Kind = 2
	case 9:
		out.Kind, out.Cycle = 3, api.Cycle{At: c.Regs.PC}
	case 10:
		out.Kind = 4
	default:
		out.Kind, out.Cycle = 1, l[0].before.Core.Cycle
		for _, f := range l {
			switch f.pins.State {
			case 7:
				out.Waits++
			case 3:
				out.Cycle.Data, out.Cycle.States = f.wrote(), f.length()
			}
		}
		out.N -= out.Waits
	}
	return out
}

// A chronicler is a model of the events of a run: it keeps count of the instruction that is under way by itself.
type chronicler struct {
	began  bool
	got    []byte
	events []api.Event
	cpus   []api.CPU
	last   api.CPU
}

func (x *chronicler) add(e api.Event, c api.CPU) {
	x.events, x.cpus, x.last = append(x.events, e), append(x.cpus, c), c
}

// note is the part of the model for one clock state.
func (x *chronicler) note(f frame) {
	c, state := f.before.Core, f.pins.State
	latched := irq.Latch(c.CPU, f.lines)
	switch {
	case state == 10:
		e := api.Event{Lines: f.lines, R75: c.CPU.R75, Trap: c.CPU.Trap, Was75: c.CPU.Was75, WasTrap: c.CPU.WasTrap}
		if x.began || c.Source != 0 {
			cut := e
			cut.Kind, cut.Source, cut.Bytes = 6, c.Source, x.got
			x.add(cut, x.last)
		}
		e.Kind = 4
		x.add(e, irq.Reset(c.CPU))
		x.began, x.got = false, nil
	case state == 8 && f.cell != nil:
		x.add(api.Event{Kind: 5, Cell: f.cell[0]}, x.last)
	case state <= 7:
		x.began = true
		if state == 3 {
			x.got = append(x.got, f.wrote())
		}
		if _, more := micro.Next(latched, c.Source, x.got); !more && state == f.length() {
			e := api.Event{Kind: 3, Source: c.Source, Bytes: x.got, Lines: f.lines, R75: latched.R75, Trap: latched.Trap, Was75: latched.Was75, WasTrap: latched.WasTrap}
			if c.Source == 0 || c.Source == 5 {
				e.Kind = map[int]int{0: 1, 5: 2}[c.Source]
			}
			x.add(e, micro.Finish(latched, c.Source, x.got, f.lines))
			x.began, x.got = false, nil
		}
	}
}

// recorded is a model of the record of a run.
func recorded(b api.Board, inputs []api.Input) (r api.Run) {
	l := frames(b, inputs)
	x, s := chronicler{last: beginning(b).Core.CPU}, beginning(b)
	for _, f := range l {
		r.Trace, s = append(r.Trace, f.pins), f.after
		x.note(f)
	}
	if x.began || s.Core.Source != 0 {
		x.add(api.Event{Kind: 7, Source: s.Core.Source, Bytes: x.got}, x.last)
	}
	r.Items, r.Events, r.CPUs, r.System = items(l), x.events, x.cpus, s
	return r
}

// sameEvent reports whether two events are equal.
func sameEvent(a, b api.Event) bool {
	return a.Kind == b.Kind && a.Source == b.Source && bytes.Equal(a.Bytes, b.Bytes) && a.Lines == b.Lines &&
		a.R75 == b.R75 && a.Trap == b.Trap && a.Was75 == b.Was75 && a.WasTrap == b.WasTrap && a.Cell == b.Cell
}

// sameRun reports whether two records are equal.
func sameRun(a, b api.Run) bool {
	return slices.Equal(a.Trace, b.Trace) && slices.Equal(a.Items, b.Items) && slices.EqualFunc(a.Events, b.Events, sameEvent) &&
		slices.Equal(a.CPUs, b.CPUs) && sameSystem(a.System, b.System)
}

// difference returns the first elements in which two lists differ, or nil.
func difference[T any](name string, got, want []T, same func(a, b T) bool) []any {
	for i := range max(len(got), len(want)) {
		switch {
		case i >= len(got):
			return []any{name, i, "missing", want[i]}
		case i >= len(want):
			return []any{name, i, "superfluous", got[i]}
		case !same(got[i], want[i]):
			return []any{name, i, got[i], "want", want[i]}
		}
	}
	return nil
}

func equal[T comparable](a, b T) bool { return a == b }

// checkRecord compares two records.
func checkRecord(t *testing.T, got, want api.Run) {
	t.Helper()
	for _, d := range [][]any{
		difference("pins", got.Trace, want.Trace, equal[api.Pins]), difference("item", got.Items, want.Items, equal[api.Item]),
		difference("event", got.Events, want.Events, sameEvent), difference("CPU", got.CPUs, want.CPUs, equal[api.CPU]),
	} {
		if d != nil {
			t.Fatalf("%+v", d)
		}
	}
	if !sameSystem(got.System, want.System) {
		t.Fatalf("the run ends with\n%+v, want\n%+v", got.System, want.System)
	}
}

// run returns the record of a run, which must be possible.
func run(t *testing.T, b api.Board, entries []byte) api.Run {
	t.Helper()
	r, errno := board.Run(b, entries)
	if errno != api.OK {
		t.Fatalf("the board %+v cannot run: %d", b, errno)
	}
	return r
}

// P25.3: runs of many programs, compared with the model. All kinds of events, items and sources occur in them.
func TestRunsOfManyPrograms(t *testing.T) {
	m := newMaker()
	events, kindsOfItems, sources := map[int]int{}, map[int]int{}, map[int]int{}
	for _, chip := range both {
		for range 150 {
			b := m.playable(chip)
			inputs, entries := m.play(m.IntN(2000))
			got := run(t, b, append(entries, m.bytes(m.IntN(4))...))
			checkRecord(t, got, recorded(b, inputs))
			for _, e := range got.Events {
				events[chip*100+e.Kind]++
				sources[chip*100+e.Source]++
			}
			for _, x := range got.Items {
				kindsOfItems[chip*100+x.Kind]++
			}
		}
	}
	if len(events) != 2*7-1 || len(kindsOfItems) != 2*4 || len(sources) != 2+6 {
		t.Errorf("the runs have too few kinds of events %v, items %v and sources %v", events, kindsOfItems, sources)
	}
	for _, counts := range []map[int]int{events, kindsOfItems, sources} {
		for kind, n := range counts {
			if n < 20 {
				t.Errorf("only %d of the kind %d in %v", n, kind, counts)
			}
		}
	}
}

package boundary_test

import (
	"bytes"
	"slices"
	"testing"

	"tstate/api"
	"tstate/board"
	"tstate/boundary"
	"tstate/core"
	"tstate/irq"
	"tstate/isa"
	"tstate/script"
)

// A recording is the run of a board, with the state at its beginning.
type recording struct {
	api.Run
	board api.Board
	first api.CPU
}

// record runs a board, which must be possible.
func record(t *testing.T, b api.Board, inputs []api.Input) recording {
	t.Helper()
	r, errno := board.Run(b, script.Encode(inputs))
	if errno != api.OK || len(r.Trace) != len(inputs) {
		t.Fatalf("the board %+v does not run: %d", b, errno)
	}
	return recording{r, b, irq.Reset(api.CPU{Chip: b.Chip})}
}

// before returns the state before an event.
func (r recording) before(i int) api.CPU {
	if i == 0 {
		return r.first
	}
	return r.CPUs[i-1]
}

// count returns the number of events of a kind.
func (r recording) count(kind int) (n int) {
	for _, e := range r.Events {
		if e.Kind == kind {
			n++
		}
	}
	return n
}

// wholeCycles returns the machine cycles of the items of which at least three states are there.
func (r recording) wholeCycles() (l []api.Cycle) {
	for _, x := range r.Items {
		if x.Kind == api.ItemCycle && x.N >= 3 {
			l = append(l, x.Cycle)
		}
	}
	return l
}

// checkReplay checks that the events lead to the CPU states and to the machine cycles of a run.
func (r recording) checkReplay(t *testing.T) {
	t.Helper()
	states := boundary.Replay(r.first, r.Events)
	if len(states) != len(r.CPUs) {
		t.Fatalf("%d events have %d states", len(r.CPUs), len(states))
	}
	var passed []api.Cycle
	for i, e := range r.Events {
		if states[i] != r.CPUs[i] {
			t.Fatalf("the event %+v leads to %+v, want %+v", e, states[i], r.CPUs[i])
		}
		passed = append(passed, boundary.Cycles(r.before(i), e)...)
	}
	want := r.wholeCycles()
	for i := range min(len(passed), len(want)) {
		if passed[i] != want[i] {
			t.Fatalf("the events have the cycle %d %+v, and the items %+v", i, passed[i], want[i])
		}
	}
	if len(passed) != len(want) {
		t.Fatalf("the events have %d cycles, and the items %d", len(passed), len(want))
	}
}

// P27.4: the states and the machine cycles of runs, in which all kinds of events and all sources occur.
func TestReplayOfRuns(t *testing.T) {
	m := newMaker()
	kinds, sources := map[int]int{}, map[int]int{}
	for n := range 300 {
		b, inputs := m.playable(both[n%2]), m.play(m.IntN(1500))
		r := record(t, b, inputs)
		r.checkReplay(t)
		record(t, b, inputs[:m.IntN(len(inputs)+1)]).checkReplay(t)
		for _, e := range r.Events {
			kinds[b.Chip*100+e.Kind]++
			sources[b.Chip*100+e.Source]++
		}
	}
	if len(kinds) != 2*7-1 || len(sources) != 2+6 {
		t.Errorf("the runs have too few kinds of events %v and sources %v", kinds, sources)
	}
	for _, counts := range []map[int]int{kinds, sources} {
		for kind, n := range counts {
			if n < 20 {
				t.Errorf("only %d of the kind %d in %v", n, kind, counts)
			}
		}
	}
}

// transferredWithin reports whether the DMA master of a board writes a byte while an instruction is under way.
func transferredWithin(b api.Board, inputs []api.Input) bool {
	s, _ := board.New(b)
	for _, in := range inputs {
		after, pins := board.Clock(b, s, in)
		if pins.Hlda && s.DMA.Left > 0 && core.Busy(s.Core) {
			return true
		}
		s = after
	}
	return false
}

// P27.4: the memory of runs at their end, if no byte of the DMA master was written while an instruction was under way.
func TestMemoryOfRuns(t *testing.T) {
	m := newMaker()
	compared, withBytes, written := 0, 0, 0
	for n := range 400 {
		b, inputs := m.playable(both[n%2]), m.play(m.IntN(800))
		if transferredWithin(b, inputs) {
			continue
		}
		r := record(t, b, inputs)
		got := boundary.Memory(r.first, b.Regions, b.Image, r.Events)
		if !slices.Equal(got, r.System.Memory) {
			t.Fatalf("the events %+v lead to the memory %v, want %v", r.Events, got, r.System.Memory)
		}
		compared++
		if r.count(api.EvDma) > 0 {
			withBytes++
		}
		if !slices.Equal(got, b.Image) {
			written++
		}
	}
	if compared < 100 || withBytes < 20 || written < 50 {
		t.Errorf("only %d runs are compared, %d of them with DMA bytes, and in %d the memory changes", compared, withBytes, written)
	}
}

// P27.4: without DMA bytes, the instructions of a run are steps of the interpreter.
func TestInstructionsOfRuns(t *testing.T) {
	m := newMaker()
	compared, served := 0, 0
	for n := range 300 {
		b := m.playable(both[n%2])
		r := record(t, b, m.play(m.IntN(1200)))
		if r.count(api.EvDma) > 0 {
			continue
		}
		compared += r.checkSteps(t)
		served += r.count(api.EvInject) + r.count(api.EvInternal)
	}
	if compared < 5000 || served < 500 {
		t.Errorf("only %d instructions are compared, in runs with %d others", compared, served)
	}
}

// checkSteps compares the instructions of a run with steps of the interpreter, and returns their number.
func (r recording) checkSteps(t *testing.T) (compared int) {
	t.Helper()
	b, m := r.board, r.board.Image
	for i, e := range r.Events {
		left := boundary.Memory(r.before(i), b.Regions, m, r.Events[i:i+1])
		if i%40 == 0 {
			if whole := boundary.Memory(r.first, b.Regions, b.Image, r.Events[:i+1]); !slices.Equal(whole, left) {
				t.Fatalf("the first %d events lead to the memory %v, one by one to %v", i+1, whole, left)
			}
		}
		if e.Kind == api.EvInstr {
			c := r.before(i)
			c.R75, c.Trap, c.Was75, c.WasTrap = e.R75, e.Trap, e.Was75, e.WasTrap
			after, memory, _, got := isa.Step(c, b.Regions, m, api.FromNone, inputsOf(c, e), e.Lines)
			if after != r.CPUs[i] || !bytes.Equal(got, e.Bytes) || !slices.Equal(memory, left) {
				t.Fatalf("the event %+v is a step to %+v with the bytes % x and the memory %v, want %+v and %v", e, after, got, memory, r.CPUs[i], left)
			}
			compared++
		}
		m = left
	}
	return compared
}

// inputsOf returns the bytes that an event has read from ports.
func inputsOf(c api.CPU, e api.Event) (ins []byte) {
	for _, x := range boundary.Cycles(c, e) {
		if x.Kind == api.CycIn {
			ins = append(ins, x.Data)
		}
	}
	return ins
}

// P27.4: a run with a TRAP that ends a halt, an edge of RST 7.5 within its service, RIM, and RESET within a push.
func TestReplayOfAService(t *testing.T) {
	code := assemble(t, api.Chip8085, "lxi sp,0x2000; ei; hlt")
	b := api.Board{Chip: api.Chip8085, Regions: []api.Region{{To: 0xFFFF, RAM: true}}, Jam: true}
	for at, v := range code {
		b.Image = append(b.Image, api.Cell{At: uint16(at), Val: v})
	}
	b.Image = slices.DeleteFunc(b.Image, func(x api.Cell) bool { return x.Val == 0 })
	b.Image = append(b.Image, cells(0x24, 0x20, 0x25, 0xC5)...) // rim; push b
	inputs := slices.Repeat([]api.Input{script.Idle()}, 10+4+5+1+12+4+9+2)
	inputs[19].Trap = true // in the first halt state
	inputs[25].R75 = true
	inputs[len(inputs)-2].Reset = true
	r := record(t, b, inputs)
	r.checkReplay(t)
	r.checkSteps(t)
	want := []int{api.EvInstr, api.EvInstr, api.EvInstr, api.EvInternal, api.EvInstr, api.EvCut, api.EvReset, api.EvOpen}
	if !slices.EqualFunc(r.Events, want, func(e api.Event, kind int) bool { return e.Kind == kind }) {
		t.Fatalf("the events are %+v", r.Events)
	}
	if c := r.CPUs[4]; c.Regs.A != 0x4F || !c.R75 || c.Saved || !r.CPUs[3].Saved {
		t.Errorf("RIM leads to %+v", c)
	}
	if got := cycleTexts(boundary.Cycles(r.CPUs[4], r.Events[5])); got != "fetch@0025=c5/6 push@1ffd=00/3" {
		t.Errorf("the cycles that RESET cuts off are %s", got)
	}
	if got := boundary.Memory(r.first, b.Regions, b.Image, r.Events); !slices.Equal(got, r.System.Memory) {
		t.Errorf("the memory is %v, want %v", got, r.System.Memory)
	}
}

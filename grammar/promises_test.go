package grammar_test

import (
	"slices"
	"testing"

	"tstate/api"
	"tstate/board"
	"tstate/grammar"
	"tstate/memory"
	"tstate/script"
)

// P26.4: the expansion of two lists, one after another, is that of the concatenation, also if the lists are not valid.
func TestExpandOfConcatenations(t *testing.T) {
	m := newMaker()
	for range 5000 {
		chip, a, b := m.one(chips), m.items(6), m.items(6)
		if m.bool() {
			a, b = m.valid(m.IntN(7)), m.valid(m.IntN(7))
		}
		parts := slices.Concat(grammar.Expand(chip, a), grammar.Expand(chip, b))
		if whole := grammar.Expand(chip, slices.Concat(a, b)); !slices.Equal(whole, parts) {
			t.Fatalf("on the chip %d, %+v and %+v have the states %+v, and together %+v", chip, a, b, parts, whole)
		}
	}
}

// P26.4: the states of valid items are as many as the sums say, and in the same places.
func TestStatesOfTraces(t *testing.T) {
	m := newMaker()
	for n := range 5000 {
		l := m.valid(n % 12)
		checkTrace(t, l, grammar.Expand(m.one(chips), l))
	}
	long := []api.Item{cycle(api.CycFetch, 4, 4, 65536), other(api.ItemHold, 65536), other(api.ItemHalt, 65536), other(api.ItemReset, 65536)}
	checkTrace(t, long, grammar.Expand(api.Chip8085, long))
}

// checkTrace compares the numbers of states of a trace with those of its items.
func checkTrace(t *testing.T, l []api.Item, trace []api.Pins) {
	t.Helper()
	var want sums
	for _, p := range trace {
		switch p.State {
		case api.TWait:
			want[1]++
		case api.THold:
			want[2]++
		case api.THalt:
			want[3]++
		case api.TReset:
			want[4]++
		default:
			want[0]++
		}
	}
	if got := sumsOf(l); got != want || got.total() != len(trace) {
		t.Fatalf("States(%+v) = %v, and the trace has %v, in all %d", l, got, want, len(trace))
	}
}

// playable returns a board with wait states and a program of any instructions, among which EI and HLT are frequent.
func (m maker) playable(chip int) api.Board {
	b := api.Board{
		Chip: chip, IOWaits: m.IntN(3), PicPort: m.byte(), DmaPort: m.byte(), Jam: m.bool(),
		Regions: []api.Region{{From: 0x0000, To: 0x7FFF, RAM: true, Waits: m.IntN(2)}, {From: 0x8000, To: 0xFFFF, RAM: m.bool(), Waits: m.IntN(4)}},
	}
	code := []byte{0x31, m.byte(), m.byte(), 0x3E, 0x08 | m.byte()&0xC7, 0x30, 0x3E, 0x09, 0xD3, b.DmaPort + 3} // lxi sp; mvi a; sim; mvi a; out
	for len(code) < 300 {
		code = append(code, []byte{0xFB, 0x76, m.byte(), m.byte(), m.byte(), m.byte(), m.byte(), m.byte()}[m.IntN(8)])
	}
	b.Image = memory.Load(0, code)
	return b
}

// play returns a script of n inputs.
func (m maker) play(n int) (l []api.Input) {
	hold, resets, requests := 1+m.IntN(40), 20+m.IntN(300), 1+m.IntN(60)
	for range n {
		l = append(l, api.Input{
			Ready: !m.rarely(5), Hold: m.rarely(hold), Reset: m.rarely(resets), Sid: m.bool(), Trap: m.rarely(requests * 2), R75: m.rarely(requests),
			R65: m.rarely(requests), R55: m.rarely(requests), Requests: m.byte() & m.byte() & m.byte(), Port: m.byte(),
		})
	}
	return l
}

// P26.4 and T1: the trace of a run is the expansion of its items, which are valid, and so is what a shorter script gives.
func TestTracesOfRuns(t *testing.T) {
	m := newMaker()
	var all sums
	for n := range 200 {
		b, inputs := m.playable(both[n%2]), m.play(m.IntN(1500))
		whole := checkRun(t, b, inputs)
		short := checkRun(t, b, inputs[:m.IntN(len(inputs)+1)])
		if !slices.Equal(short.Trace, whole.Trace[:len(short.Trace)]) {
			t.Fatalf("the run with a prefix of the script is no prefix of %+v", whole.Trace)
		}
		for i, k := range sumsOf(whole.Items) {
			all[i] += k
		}
	}
	if slices.Min(all[:]) < 1000 {
		t.Errorf("the runs have only %v states of the five kinds", all)
	}
}

// checkRun compares the trace of a run with its items, and returns the run.
func checkRun(t *testing.T, b api.Board, inputs []api.Input) api.Run {
	t.Helper()
	r, errno := board.Run(b, script.Encode(inputs))
	if errno != api.OK || len(r.Trace) != len(inputs) {
		t.Fatalf("the board %+v does not run: %d", b, errno)
	}
	if !grammar.Valid(b.Chip, r.Items) || !sound(r.Items) {
		t.Fatalf("the items of a run are not valid: %+v", r.Items)
	}
	if got := grammar.Expand(b.Chip, r.Items); !slices.Equal(got, r.Trace) {
		t.Fatalf("the items %+v have the states %+v, and the trace is %+v", r.Items, got, r.Trace)
	}
	checkTrace(t, r.Items, r.Trace)
	return r
}

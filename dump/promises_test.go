package dump_test

import (
	"slices"
	"strings"
	"testing"

	"tstate/api"
	"tstate/board"
	"tstate/dump"
	"tstate/memory"
	"tstate/script"
)

// checkBoth checks that the trace of a text is l, and that the text of l is s.
func checkBoth(t *testing.T, l []api.Pins, s string) {
	t.Helper()
	checkFormat(t, l, s)
	checkParse(t, s, l)
	checkParse(t, dump.Format(l), l)
	again, _, _ := dump.Parse(s)
	checkFormat(t, again, s)
}

// P28.3: any traces, with their texts.
func TestParseOfFormat(t *testing.T) {
	m := newMaker()
	for n := range 3000 {
		l, s := m.trace(n % 20)
		checkBoth(t, l, s)
	}
	l, s := m.trace(100000)
	checkBoth(t, l, s)
}

// P28.3: a trace in which one number is no state has a text that is no text of a trace, and the line is that of the record.
func TestParseOfFormatWithoutAState(t *testing.T) {
	m := newMaker()
	for n := range 500 {
		l, _ := m.trace(1 + n%20)
		place := m.IntN(len(l))
		l[place].State = noStates[m.IntN(len(noStates))]
		checkWrong(t, dump.Format(l), place+1)
	}
}

// P28.3: the texts of two traces, one after another, are the text of both.
func TestTextsOneAfterAnother(t *testing.T) {
	m := newMaker()
	for range 500 {
		a, first := m.trace(m.IntN(6))
		b, second := m.trace(m.IntN(6))
		checkBoth(t, slices.Concat(a, b), first+second)
	}
}

// P28.3: the traces of runs on both chips.
func TestTracesOfRuns(t *testing.T) {
	m := newMaker()
	seen := map[string]bool{}
	for n := range 100 {
		r := m.run(t, 1+n%2)
		s := dump.Format(r.Trace)
		checkParse(t, s, r.Trace)
		for _, part := range strings.Fields(s) {
			seen[part] = true
		}
	}
	for _, x := range levels {
		if !seen[x.name] {
			t.Errorf("no run has the pin %s", x.name)
		}
	}
	for _, name := range names {
		if !seen[name] {
			t.Errorf("no run has the state %s", name)
		}
	}
}

// run returns the run of a board with any program and any script.
func (m maker) run(t *testing.T, chip int) api.Run {
	t.Helper()
	rarely := func(n int) bool { return m.IntN(n) == 0 }
	b := api.Board{Chip: chip, Regions: []api.Region{{From: 0x0000, To: 0xFFFF, RAM: true, Waits: m.IntN(2)}}, Jam: true}
	code := []byte{0x3E, 0xC8, 0x30} // mvi a; sim, which is a Nop on the 8080
	for range 200 {
		code = append(code, []byte{0xFB, 0x76, byte(m.IntN(256)), byte(m.IntN(256)), byte(m.IntN(256))}[m.IntN(5)])
	}
	b.Image = memory.Load(0, code)
	var l []api.Input
	for range 400 {
		l = append(l, api.Input{
			Ready: !rarely(5), Hold: rarely(20), Reset: rarely(200), Trap: rarely(60), R55: rarely(40), Requests: byte(m.IntN(256)) & 1, Port: byte(m.IntN(256)),
		})
	}
	r, e := board.Run(b, script.Encode(l))
	if e != api.OK || len(r.Trace) != len(l) {
		t.Fatalf("the board %+v does not run: %d", b, e)
	}
	return r
}

// P28.1 and P28.2: the first records of an 8080, and of an 8085, that fetches at 0.
func TestFirstRecords(t *testing.T) {
	for _, x := range []struct {
		chip int
		want string
	}{
		{api.Chip8080, "t1 0000 a2 sync\nt2 0000 00 dbin\nt3 0000 76 dbin\nt4 0000 00\n"},
		{api.Chip8085, "t1 0000 00 ale s1 s0\nt2 0000 00 s1 s0 rd\nt3 0000 76 s1 s0 rd\nt4 0000 00 s1 s0\n"},
	} {
		b := api.Board{Chip: x.chip, Image: memory.Load(0, []byte{0x76}), Regions: []api.Region{{From: 0x0000, To: 0xFFFF, RAM: true}}}
		r, _ := board.Run(b, script.Encode(slices.Repeat([]api.Input{script.Idle()}, 4)))
		checkBoth(t, r.Trace, x.want)
	}
}

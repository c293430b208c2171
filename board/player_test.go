package board_test

import (
	"fmt"
	"slices"
	"strings"
	"testing"

	"tstate/api"
	"tstate/listing"
	"tstate/script"
)

// assemble returns the bytes of instructions that are written as texts, with semicolons between them.
func assemble(t *testing.T, chip int, text string) (code []byte) {
	t.Helper()
	for line := range strings.SplitSeq(text, "; ") {
		b, errno := listing.Parse(chip, line)
		if errno != api.OK {
			t.Fatalf("%q is no instruction of the chip %d", line, chip)
		}
		code = append(code, b...)
	}
	return code
}

// levels returns the inputs of letters, with a byte at the input port. READY is high, but for w and x; x and i have HOLD as
// well, q is RESET with TRAP and RST 7.5; A to H are the request lines, and blanks only separate.
func levels(letters string, port byte) (l []api.Input) {
	for _, letter := range strings.ReplaceAll(letters, " ", "") {
		in := api.Input{Ready: letter != 'w' && letter != 'x', Port: port}
		switch letter {
		case 'h', 'x':
			in.Hold = true
		case 'i':
			in.Hold, in.Requests = true, 1
		case 'q':
			in.Reset, in.Trap, in.R75 = true, true, true
		case 'r':
			in.Reset = true
		case 's':
			in.Sid = true
		case 't':
			in.Trap = true
		case '7':
			in.R75 = true
		case '6':
			in.R65 = true
		case '5':
			in.R55 = true
		case 'A', 'B', 'C', 'D', 'E', 'F', 'G', 'H':
			in.Requests = 1 << (letter - 'A')
		}
		l = append(l, in)
	}
	return l
}

// entries returns the script of letters.
func entries(letters string, port byte) []byte { return script.Encode(levels(letters, port)) }

// named returns the name of a number in a list of names.
func named(names string, n int) string {
	if l := strings.Fields(names); n >= 0 && n < len(l) {
		return l[n]
	}
	return fmt.Sprint(n)
}

// tracedStates returns a letter for each state of a trace: its number, w for TWait, h for THold, z for THalt, r for TReset.
func tracedStates(l []api.Pins) (out string) {
	for _, p := range l {
		out += string("?123456whzr"[p.State])
	}
	return out
}

// itemTexts returns the items as texts. Those of machine cycles are, for example, fetch 0000 3e 4/4 w1 inte sod.
func itemTexts(l []api.Item) (out []string) {
	for _, x := range l {
		text := fmt.Sprintf("%s %d", named("? cycle hold halt reset", x.Kind), x.N)
		rest := x
		rest.Kind, rest.N, rest.Inte, rest.Sod = 0, 0, false, false
		if x.Kind == api.ItemCycle {
			kind := named("? fetch read write pop push in out ack more halted idle rst", x.Cycle.Kind)
			text = fmt.Sprintf("%s %04x %02x %d/%d", kind, x.Cycle.At, x.Cycle.Data, x.N, x.Cycle.States)
			if x.Waits != 0 {
				text += fmt.Sprintf(" w%d", x.Waits)
			}
			rest = api.Item{}
		}
		if x.Kind == api.ItemHalt {
			text += fmt.Sprintf(" %04x", x.Cycle.At)
			rest.Cycle.At = 0
		}
		for _, f := range []struct {
			set  bool
			name string
		}{{x.Inte, " inte"}, {x.Sod, " sod"}, {rest != api.Item{}, " and more"}} {
			if f.set {
				text += f.name
			}
		}
		out = append(out, text)
	}
	return out
}

// eventTexts returns the events as texts, without their levels and latches.
func eventTexts(l []api.Event) (out []string) {
	for _, e := range l {
		text := named("? instr inject internal reset dma cut open", e.Kind)
		if e.Source != api.FromNone {
			text += " " + named("none trap 75 65 55 intr", e.Source)
		}
		if len(e.Bytes) > 0 {
			text += fmt.Sprintf(" %x", e.Bytes)
		}
		if e.Cell != (api.Cell{}) {
			text += fmt.Sprintf(" %04x=%02x", e.Cell.At, e.Cell.Val)
		}
		out = append(out, text)
	}
	return out
}

// levelTexts returns the levels of the events as texts: the names of those that are high, and then those of the latches.
func levelTexts(l []api.Event) (out []string) {
	for _, e := range l {
		var names []string
		for _, f := range []struct {
			set  bool
			name string
		}{
			{e.Lines.Ready, "ready"}, {e.Lines.Hold, "hold"}, {e.Lines.Reset, "reset"}, {e.Lines.Sid, "sid"}, {e.Lines.Trap, "trap"},
			{e.Lines.R75, "75"}, {e.Lines.R65, "65"}, {e.Lines.R55, "55"}, {e.Lines.Intr, "intr"},
			{e.Trap, "TRAP"}, {e.R75, "R75"}, {e.WasTrap, "WASTRAP"}, {e.Was75, "WAS75"},
		} {
			if f.set {
				names = append(names, f.name)
			}
		}
		out = append(out, strings.Join(names, " "))
	}
	return out
}

// A scene is the run of a board with letters, and what is expected of it; what is empty does not matter. The items, the
// events and their levels have a line each.
type scene struct {
	board         api.Board
	letters       string
	port          byte
	states        string
	items, events string
	levels        string
}

// lines returns the lines of a text without the white space around them. A dash stands for an empty line.
func lines(text string) (l []string) {
	for line := range strings.Lines(text) {
		if line = strings.TrimSpace(line); line == "-" {
			l = append(l, "")
		} else if line != "" {
			l = append(l, line)
		}
	}
	return l
}

// play checks a scene and returns the record of its run.
func play(t *testing.T, s scene) api.Run {
	t.Helper()
	r := run(t, s.board, entries(s.letters, s.port))
	if states := strings.ReplaceAll(s.states, " ", ""); states != "" && tracedStates(r.Trace) != states {
		t.Errorf("the states are %s, want %s", tracedStates(r.Trace), states)
	}
	for _, x := range []struct {
		name string
		got  []string
		want []string
	}{
		{"items", itemTexts(r.Items), lines(s.items)}, {"events", eventTexts(r.Events), lines(s.events)}, {"levels", levelTexts(r.Events), lines(s.levels)},
	} {
		if len(x.want) > 0 && !slices.Equal(x.got, x.want) {
			t.Errorf("the %s are\n%s\nwant\n%s", x.name, strings.Join(x.got, "\n"), strings.Join(x.want, "\n"))
		}
	}
	if len(r.CPUs) != len(r.Events) {
		t.Errorf("there are %d CPU states for %d events", len(r.CPUs), len(r.Events))
	}
	return r
}

package pic_test

import (
	"testing"

	"tstate/api"
	"tstate/pic"
	"tstate/priority"
)

var both = []bool{false, true}

// P22.1
func TestNew(t *testing.T) {
	p := pic.New()
	if p != (api.PIC{Lowest: 7}) {
		t.Errorf("New() = %+v", p)
	}
	if pic.Requests(p) != 0 || pic.Int(p) {
		t.Errorf("a new controller requests %#02x, Int %t", pic.Requests(p), pic.Int(p))
	}
}

// P22.1: the edges that levels of the lines, one after another, leave.
func TestRaiseExamples(t *testing.T) {
	p := pic.New()
	for i, x := range []struct{ lines, edge byte }{
		{0x00, 0x00}, {0x01, 0x01}, {0x01, 0x01}, {0x81, 0x81}, {0x80, 0x80}, {0x00, 0x00}, {0xFF, 0xFF}, {0x55, 0x55}, {0xAA, 0xAA},
	} {
		p = pic.Raise(p, x.lines)
		if want := (api.PIC{Lowest: 7, Lines: x.lines, Edge: x.edge}); p != want {
			t.Errorf("%d: %+v, want %+v", i, p, want)
		}
	}
	p.Edge = 0x08
	for i, x := range []struct{ lines, edge byte }{{0xAA, 0x08}, {0xAB, 0x09}, {0xA3, 0x01}, {0xAB, 0x09}, {0xA2, 0x00}} {
		if p = pic.Raise(p, x.lines); p.Edge != x.edge || p.Lines != x.lines {
			t.Errorf("after a service, %d: lines %#02x, edges %#02x, want %#02x, %#02x", i, p.Lines, p.Edge, x.lines, x.edge)
		}
	}
}

// P22.1: an edge whose line was not high before, which no call of Raise leaves.
func TestRaiseOfOtherStates(t *testing.T) {
	for _, x := range []struct{ edge, before, lines, want byte }{
		{0x10, 0x00, 0x00, 0x00}, {0x10, 0x00, 0x10, 0x10}, {0x10, 0x10, 0x00, 0x00}, {0x00, 0x10, 0x10, 0x00}, {0x0F, 0x33, 0x55, 0x45},
	} {
		p := api.PIC{Edge: x.edge, Lines: x.before}
		if got := pic.Raise(p, x.lines); got != (api.PIC{Edge: x.want, Lines: x.lines}) {
			t.Errorf("Raise(%+v, %#02x) = %+v, want the edges %#02x", p, x.lines, got, x.want)
		}
	}
}

// P22.1: all bits of all lines, and all other fields, which stay.
func TestRaiseOfAllStates(t *testing.T) {
	for n := range someStates {
		p := state(n)
		for lines := range 256 {
			check(t, "Raise", p, pic.Raise(p, byte(lines)), raised(p, byte(lines)), 0, 0)
		}
	}
}

// P22.1
func TestRequests(t *testing.T) {
	p := api.PIC{Lines: 0xF0, Edge: 0x35}
	if got := pic.Requests(p); got != 0x35 {
		t.Errorf("the edges are %#02x", got)
	}
	p.Level = true
	if got := pic.Requests(p); got != 0xF0 {
		t.Errorf("the levels are %#02x", got)
	}
	for n := range manyStates {
		if p := state(n); pic.Requests(p) != requested(p) {
			t.Fatalf("Requests(%+v) = %#02x, want %#02x", p, pic.Requests(p), requested(p))
		}
	}
}

// P22.1: each of the five values that Int passes on counts.
func TestIntExamples(t *testing.T) {
	for _, x := range []struct {
		p    api.PIC
		want bool
	}{
		{api.PIC{}, false}, {api.PIC{Edge: 0x01, Lowest: 7}, true}, {api.PIC{Edge: 0x80}, true}, {api.PIC{Lines: 0xFF}, false},
		{api.PIC{Lines: 0x04, Level: true}, true}, {api.PIC{Edge: 0xFF, Level: true}, false}, {api.PIC{Edge: 0x10, IMR: 0x10}, false},
		{api.PIC{Edge: 0x30, IMR: 0x10}, true}, {api.PIC{Edge: 0x30, ISR: 0x10, Lowest: 7}, false}, {api.PIC{Edge: 0x30, ISR: 0x20, Lowest: 7}, true},
		{api.PIC{Edge: 0x20, ISR: 0x10, Lowest: 4}, true}, {api.PIC{Edge: 0x20, ISR: 0x10, Lowest: 12}, true}, {api.PIC{Edge: 0x20, ISR: 0x10, Lowest: -1}, false},
		{api.PIC{Edge: 0x20, ISR: 0x10, IMR: 0x10, Lowest: 7}, false}, {api.PIC{Edge: 0x20, ISR: 0x10, IMR: 0x10, Lowest: 7, Special: true}, true},
		{api.PIC{Edge: 0x20, ISR: 0x10, Lowest: 7, Special: true}, false}, {api.PIC{Edge: 0x20, ISR: 0x20, IMR: 0x20, Special: true}, false},
		{api.PIC{Edge: 0x01, Lowest: 7, Stage: 2, Step: 2, Poll: true}, true},
	} {
		if got := pic.Int(x.p); got != x.want {
			t.Errorf("Int(%+v) = %t, want %t", x.p, got, x.want)
		}
	}
}

// P22.1: Int agrees with package priority and with the model.
func TestIntOfManyStates(t *testing.T) {
	found := map[bool]int{}
	for n := range manyStates {
		p := state(n)
		_, want := next(p)
		picked := priority.Pick(pic.Requests(p), p.IMR, p.ISR, p.Lowest, p.Special)
		if got := pic.Int(p); got != want || got != (picked >= 0) {
			t.Fatalf("Int(%+v) = %t, want %t; the line is %d", p, got, want, picked)
		}
		found[want]++
	}
	if found[true] < manyStates/10 || found[false] < manyStates/10 {
		t.Errorf("the states are not varied: %v", found)
	}
}

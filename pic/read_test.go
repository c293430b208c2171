package pic_test

import (
	"math"
	"testing"

	"tstate/api"
	"tstate/pic"
)

// P22.6: the upper port, and the lower one without a poll, leave the state as it is.
func TestReadWithoutPoll(t *testing.T) {
	for _, x := range []struct {
		level, readISR, poll, high bool
		want                       byte
	}{
		{false, false, false, true, 0x42}, {true, true, true, true, 0x42}, {false, false, true, true, 0x42}, {false, false, false, false, 0x18},
		{true, false, false, false, 0x3C}, {false, true, false, false, 0x81}, {true, true, false, false, 0x81},
	} {
		p := busy
		p.Level, p.ReadISR, p.Poll = x.level, x.readISR, x.poll
		if got, b := pic.Read(p, x.high); got != p || b != x.want {
			t.Errorf("Read(%+v, %t) = %+v, %#02x, want the same state and %#02x", p, x.high, got, b, x.want)
		}
	}
}

// P22.6
func TestPollExamples(t *testing.T) {
	for _, x := range []struct {
		name        string
		p           api.PIC
		b           byte
		edge, isr   byte
		lowestAfter int
	}{
		{"none", api.PIC{Lowest: 7}, 0x00, 0, 0, 7}, {"a level without an edge", api.PIC{Lines: 8, Lowest: 7}, 0x00, 0, 0, 7},
		{"one", api.PIC{Edge: 0x08, Lowest: 7}, 0x83, 0, 0x08, 7}, {"two", api.PIC{Edge: 0x81, Lowest: 7}, 0x80, 0x80, 0x01, 7},
		{"line 0 lowest", api.PIC{Edge: 0x81, Lowest: 0}, 0x87, 0x01, 0x80, 0}, {"line 0 lowest, beyond 7", api.PIC{Edge: 0x81, Lowest: 8}, 0x87, 0x01, 0x80, 8},
		{"masked", api.PIC{Edge: 0x08, IMR: 0x08, Lowest: 7}, 0x00, 0x08, 0, 7}, {"one of two masked", api.PIC{Edge: 0x18, IMR: 0x08, Lowest: 7}, 0x84, 0x08, 0x10, 7},
		{"blocked", api.PIC{Edge: 0x08, ISR: 0x04, Lowest: 7}, 0x00, 0x08, 0x04, 7}, {"nested", api.PIC{Edge: 0x08, ISR: 0x10, Lowest: 7}, 0x83, 0, 0x18, 7},
		{"special", api.PIC{Edge: 0x08, ISR: 0x04, IMR: 0x04, Lowest: 7, Special: true}, 0x83, 0, 0x0C, 7},
		{"level", api.PIC{Lines: 0x06, Edge: 0x82, Level: true, Lowest: 7}, 0x81, 0x80, 0x02, 7},
		{"ISR to be read", api.PIC{Edge: 0x08, ISR: 0x80, ReadISR: true, Lowest: 7}, 0x83, 0, 0x88, 7},
		{"automatic", api.PIC{Edge: 0x18, Auto: true, Lowest: 7}, 0x83, 0x10, 0, 7}, {"automatic, nested", api.PIC{Edge: 0x18, ISR: 0x20, Auto: true, Lowest: 7}, 0x83, 0x10, 0x20, 7},
		{"automatic, rotating", api.PIC{Edge: 0x18, Auto: true, Rotate: true, Lowest: 7}, 0x83, 0x10, 0, 3},
		{"rotating, but not automatic", api.PIC{Edge: 0x18, Rotate: true, Lowest: 7}, 0x83, 0x10, 0x08, 7},
		{"automatic, rotating, none", api.PIC{Auto: true, Rotate: true, Lowest: 5}, 0x00, 0, 0, 5},
		{"automatic, rotating, blocked", api.PIC{Edge: 0x18, ISR: 0x80, Auto: true, Rotate: true, Lowest: 6}, 0x00, 0x18, 0x80, 6},
	} {
		x.p.Poll, x.p.Stage, x.p.Step, x.p.Serving, x.p.Spurious = true, 9, 2, 5, true
		want := x.p
		want.Poll, want.Edge, want.ISR, want.Lowest = false, x.edge, x.isr, x.lowestAfter
		got, b := pic.Read(x.p, false)
		if got != want || b != x.b {
			t.Errorf("%s: Read(%+v) =\n%+v, %#02x, want\n%+v, %#02x", x.name, x.p, got, b, want, x.b)
		}
	}
}

// P22.6: states of all kinds.
func TestReadOfManyStates(t *testing.T) {
	polls := map[bool]int{}
	for n := range manyStates {
		p := state(n)
		for _, high := range both {
			want, wantByte := read(p, high)
			got, b := pic.Read(p, high)
			check(t, "Read", p, got, want, b, wantByte)
		}
		if p.Poll {
			_, b := pic.Read(p, false)
			polls[b != 0]++
		}
	}
	if polls[true] < manyStates/20 || polls[false] < manyStates/20 {
		t.Errorf("the states are not varied: %v", polls)
	}
}

// P22.5 with P22.6: a poll command holds for one read of the lower port, and reads of the upper one leave it.
func TestPollCommand(t *testing.T) {
	p := pic.Write(pic.Raise(pic.New(), 0x50), false, 0x0F)
	p, mask := pic.Read(p, true)
	p, first := pic.Read(p, false)
	p, second := pic.Read(p, false)
	if mask != 0 || first != 0x84 || second != 0x10 || p.Poll {
		t.Errorf("%#02x, %#02x, %#02x, %+v", mask, first, second, p)
	}
}

// P22.7: the first pulse.
func TestFirstPulse(t *testing.T) {
	for _, x := range []struct {
		name      string
		p         api.PIC
		serving   int
		spurious  bool
		edge, isr byte
	}{
		{"one", api.PIC{Edge: 0x08, Lowest: 7}, 3, false, 0, 0x08}, {"two", api.PIC{Edge: 0x81, Lowest: 7}, 0, false, 0x80, 0x01},
		{"line 7", api.PIC{Edge: 0x80, Lowest: 7}, 7, false, 0, 0x80}, {"line 0 lowest", api.PIC{Edge: 0x81, Lowest: 0}, 7, false, 0x01, 0x80},
		{"line 0 lowest, beyond 7", api.PIC{Edge: 0x81, Lowest: math.MinInt}, 7, false, 0x01, 0x80},
		{"none", api.PIC{Lowest: 7}, 7, true, 0, 0}, {"none, others in service", api.PIC{ISR: 0x41, Lowest: 3}, 7, true, 0, 0x41},
		{"masked", api.PIC{Edge: 0x08, IMR: 0x08, Lowest: 7}, 7, true, 0x08, 0}, {"blocked", api.PIC{Edge: 0x08, ISR: 0x04, Lowest: 7}, 7, true, 0x08, 0x04},
		{"line 7 blocked", api.PIC{Edge: 0x80, ISR: 0x40, Lowest: 7}, 7, true, 0x80, 0x40}, {"nested", api.PIC{Edge: 0x08, ISR: 0x10, Lowest: 7}, 3, false, 0, 0x18},
		{"special", api.PIC{Edge: 0x08, ISR: 0x04, IMR: 0x04, Lowest: 7, Special: true}, 3, false, 0, 0x0C},
		{"level", api.PIC{Lines: 0x06, Edge: 0x82, Level: true, Lowest: 7}, 1, false, 0x80, 0x02},
		{"automatic", api.PIC{Edge: 0x18, Auto: true, Rotate: true, Lowest: 7}, 3, false, 0x10, 0x08},
		{"poll", api.PIC{Edge: 0x18, Poll: true, Lowest: 7}, 3, false, 0x10, 0x08},
	} {
		for _, before := range []api.PIC{{Serving: 5, Spurious: true}, {Serving: -1}} {
			x.p.Serving, x.p.Spurious, x.p.Stage, x.p.High = before.Serving, before.Spurious, 2, 0x21
			want := x.p
			want.Step, want.Serving, want.Spurious, want.Edge, want.ISR = 1, x.serving, x.spurious, x.edge, x.isr
			got, b := pic.Ack(x.p)
			if got != want || b != 0xCD {
				t.Errorf("%s: Ack(%+v) =\n%+v, %#02x, want\n%+v, 0xcd", x.name, x.p, got, b, want)
			}
		}
	}
}

// P22.7: the second pulse answers with the low byte of the address, and changes nothing but the step.
func TestSecondPulse(t *testing.T) {
	for _, x := range []struct {
		low     byte
		serving int
		four    bool
		want    byte
	}{
		{0x00, 0, true, 0x00}, {0x00, 3, true, 0x0C}, {0x00, 7, true, 0x1C}, {0xE0, 7, true, 0xFC}, {0x20, 1, true, 0x24}, {0xFF, 1, true, 0xE4}, {0x1F, 2, true, 0x08},
		{0x00, 0, false, 0x00}, {0x00, 3, false, 0x18}, {0x00, 7, false, 0x38}, {0xE0, 7, false, 0xF8}, {0x20, 1, false, 0x08}, {0xFF, 4, false, 0xE0}, {0x3F, 2, false, 0x10},
		{0x40, 8, true, 0x40}, {0x40, 10, false, 0x50}, {0x40, -1, true, 0x5C}, {0x40, -8, false, 0x40}, {0x40, math.MaxInt, false, 0x78}, {0x40, math.MinInt + 1, true, 0x44},
	} {
		p := busy
		p.Step, p.Low, p.Serving, p.Four = 1, x.low, x.serving, x.four
		want := p
		want.Step = 2
		if got, b := pic.Ack(p); got != want || b != x.want {
			t.Errorf("Ack(%+v) = %+v, %#02x, want %+v, %#02x", p, got, b, want, x.want)
		}
	}
}

// P22.7: the third pulse, and every step that is not 0 or 1.
func TestThirdPulse(t *testing.T) {
	for _, x := range []struct {
		auto, rotate, spurious bool
		serving                int
		isr                    byte
		lowest                 int
	}{
		{false, false, false, 3, 0xFF, 6}, {false, true, false, 3, 0xFF, 6}, {true, false, false, 3, 0xF7, 6}, {true, true, false, 3, 0xF7, 3},
		{true, true, true, 7, 0xFF, 6}, {true, false, true, 3, 0xFF, 6}, {true, true, false, 11, 0xF7, 3}, {true, true, false, -1, 0x7F, 7}, {true, true, false, 0, 0xFE, 0},
		{true, true, false, math.MinInt, 0xFE, 0}, {true, true, false, math.MaxInt, 0x7F, 7},
	} {
		for _, step := range ints {
			if step == 0 || step == 1 {
				continue
			}
			p := busy
			p.Step, p.Serving, p.ISR, p.Lowest, p.Auto, p.Rotate, p.Spurious = step, x.serving, 0xFF, 6, x.auto, x.rotate, x.spurious
			want := p
			want.Step, want.ISR, want.Lowest = 0, x.isr, x.lowest
			if got, b := pic.Ack(p); got != want || b != p.High {
				t.Errorf("Ack(%+v) = %+v, %#02x, want %+v, %#02x", p, got, b, want, p.High)
			}
		}
	}
}

// P22.7: states of all kinds.
func TestAckOfManyStates(t *testing.T) {
	steps := map[int]int{}
	for n := range manyStates {
		p := state(n)
		want, wantByte := acked(p)
		got, b := pic.Ack(p)
		check(t, "Ack", p, got, want, b, wantByte)
		steps[min(max(p.Step, -1), 3)]++
	}
	for step := -1; step <= 3; step++ {
		if steps[step] < manyStates/100 {
			t.Errorf("the states are not varied: %v", steps)
		}
	}
}

package pic_test

import (
	"testing"

	"tstate/api"
	"tstate/pic"
)

// busy is a state in which no field is zero.
var busy = api.PIC{
	Stage: 3, Level: true, Four: true, Single: true, Fourth: true, Low: 0xE0, High: 0x12, Auto: true, Rotate: true, Special: true,
	ReadISR: true, Poll: true, Lines: 0x3C, Edge: 0x18, ISR: 0x81, IMR: 0x42, Lowest: 4, Step: 2, Serving: 5, Spurious: true,
}

// P22.2: of the state before, ICW1 keeps the lines alone, in each stage.
func TestFirstWord(t *testing.T) {
	for _, x := range []struct {
		v    byte
		want api.PIC
	}{
		{0x10, api.PIC{}}, {0x18, api.PIC{Level: true}}, {0x14, api.PIC{Four: true}}, {0x12, api.PIC{Single: true}}, {0x11, api.PIC{Fourth: true}},
		{0x30, api.PIC{Low: 0x20}}, {0x50, api.PIC{Low: 0x40}}, {0x90, api.PIC{Low: 0x80}}, {0xF0, api.PIC{Low: 0xE0}}, {0x16, api.PIC{Four: true, Single: true}},
		{0xFF, api.PIC{Low: 0xE0, Level: true, Four: true, Single: true, Fourth: true}}, {0xD9, api.PIC{Low: 0xC0, Level: true, Fourth: true}},
	} {
		x.want.Stage, x.want.Lowest = 2, 7
		if got := pic.Write(pic.New(), false, x.v); got != x.want {
			t.Errorf("after ICW1 %#02x: %+v, want %+v", x.v, got, x.want)
		}
		x.want.Lines = 0x3C
		for _, stage := range ints {
			p := busy
			p.Stage = stage
			if got := pic.Write(p, false, x.v); got != x.want {
				t.Errorf("after ICW1 %#02x in %+v: %+v, want %+v", x.v, p, got, x.want)
			}
		}
	}
}

// P22.2: a line that is high at ICW1 requests nothing until it rises again, unless the controller is level triggered.
func TestLinesAtFirstWord(t *testing.T) {
	p := pic.Write(pic.Raise(pic.New(), 0x06), false, 0x12)
	if pic.Int(p) || pic.Int(pic.Raise(p, 0x06)) || !pic.Int(pic.Raise(pic.Raise(p, 0x02), 0x06)) {
		t.Errorf("after ICW1: %+v", p)
	}
	if q := pic.Write(p, false, 0x1A); !pic.Int(q) || pic.Requests(q) != 0x06 {
		t.Errorf("after ICW1, level triggered: %+v", q)
	}
}

// P22.3: the words that follow ICW1, and the masks behind them.
func TestWords(t *testing.T) {
	for _, x := range []struct {
		icw1  byte
		words []byte
		want  api.PIC
	}{
		{0x12, []byte{0xA5}, api.PIC{High: 0xA5, Single: true}},
		{0x12, []byte{0xA5, 0xFF}, api.PIC{High: 0xA5, Single: true, IMR: 0xFF}},
		{0x12, []byte{0xA5, 0xFF, 0x3C}, api.PIC{High: 0xA5, Single: true, IMR: 0x3C}},
		{0x13, []byte{0xA5}, api.PIC{High: 0xA5, Single: true, Fourth: true, Stage: 4}},
		{0x13, []byte{0xA5, 0x02}, api.PIC{High: 0xA5, Single: true, Fourth: true, Auto: true}},
		{0x13, []byte{0xA5, 0xFD}, api.PIC{High: 0xA5, Single: true, Fourth: true}},
		{0x13, []byte{0xA5, 0xFF, 0xFD}, api.PIC{High: 0xA5, Single: true, Fourth: true, Auto: true, IMR: 0xFD}},
		{0x10, []byte{0xA5}, api.PIC{High: 0xA5, Stage: 3}},
		{0x10, []byte{0xA5, 0xFF}, api.PIC{High: 0xA5}},
		{0x10, []byte{0xA5, 0xFF, 0x0F}, api.PIC{High: 0xA5, IMR: 0x0F}},
		{0x11, []byte{0xA5}, api.PIC{High: 0xA5, Fourth: true, Stage: 3}},
		{0x11, []byte{0xA5, 0xFF}, api.PIC{High: 0xA5, Fourth: true, Stage: 4}},
		{0x11, []byte{0xA5, 0x00, 0x0F}, api.PIC{High: 0xA5, Fourth: true, Auto: true}},
		{0x11, []byte{0xA5, 0x00, 0x0F, 0x0F}, api.PIC{High: 0xA5, Fourth: true, Auto: true, IMR: 0x0F}},
	} {
		x.want.Lowest = 7
		p := pic.Write(pic.New(), false, x.icw1)
		for _, v := range x.words {
			p = pic.Write(p, true, v)
		}
		if p != x.want {
			t.Errorf("after ICW1 %#02x and % x: %+v, want %+v", x.icw1, x.words, p, x.want)
		}
	}
}

// P22.3: numbers that are no stages, and an ICW4 without the bit of the automatic end.
func TestWordsOfOtherStages(t *testing.T) {
	for _, stage := range ints {
		want, p := busy, busy
		p.Stage, want.Stage = stage, stage
		switch stage {
		case 2:
			want.High, want.Stage = 0x55, 4
		case 3:
			want.Stage = 4
		case 4:
			want.Auto, want.Stage = false, 0
		default:
			want.IMR = 0x55
		}
		if got := pic.Write(p, true, 0x55); got != want {
			t.Errorf("Write(%+v, true, 0x55) = %+v, want %+v", p, got, want)
		}
	}
}

// P22.3: commands between the initialization words change nothing of the order of these.
func TestCommandsBetweenWords(t *testing.T) {
	p := pic.Write(pic.New(), false, 0x11)
	for _, v := range []byte{0x20, 0x55, 0x02} {
		p = pic.Write(pic.Write(pic.Write(p, false, 0x0B), false, 0xC3), true, v)
	}
	if want := (api.PIC{Fourth: true, High: 0x20, Auto: true, ReadISR: true, Lowest: 3}); p != want {
		t.Errorf("%+v, want %+v", p, want)
	}
}

// P22.4
func TestCommandExamples(t *testing.T) {
	for _, x := range []struct {
		name            string
		isr, imr        byte
		lowest          int
		special, rotate bool
		v               byte
		isrAfter        byte
		lowestAfter     int
		rotateAfter     bool
	}{
		{"end", 0x28, 0, 7, false, false, 0x20, 0x20, 7, false},
		{"end, n does not matter", 0x28, 0, 7, false, true, 0x25, 0x20, 7, true},
		{"end with line 3 lowest", 0x28, 0, 3, false, false, 0x20, 0x08, 3, false},
		{"end with line 3 lowest, beyond 7", 0x28, 0, 11, false, false, 0x20, 0x08, 11, false},
		{"end of a masked line", 0x28, 0x08, 7, false, false, 0x20, 0x20, 7, false},
		{"end, special", 0x28, 0x08, 7, true, false, 0x20, 0x08, 7, false},
		{"end, special, all masked", 0x28, 0x28, 7, true, false, 0x20, 0x28, 7, false},
		{"end of nothing", 0x00, 0, 7, false, false, 0x20, 0x00, 7, false},
		{"end of line 5", 0x28, 0, 7, false, false, 0x65, 0x08, 7, false},
		{"end of line 0", 0x29, 0, 7, false, false, 0x60, 0x28, 7, false},
		{"end of line 7", 0xFF, 0, 7, false, false, 0x67, 0x7F, 7, false},
		{"end of line 4, not in service", 0x28, 0, 7, false, false, 0x64, 0x28, 7, false},
		{"end of line 3, special and masked", 0x28, 0x08, 7, true, false, 0x63, 0x20, 7, false},
		{"end and rotate", 0x28, 0, 7, false, false, 0xA0, 0x20, 3, false},
		{"end and rotate, n does not matter", 0x28, 0, 7, false, false, 0xA6, 0x20, 3, false},
		{"end and rotate with line 4 lowest", 0x28, 0, 4, false, false, 0xA0, 0x08, 5, false},
		{"end and rotate, special", 0x28, 0x08, 7, true, true, 0xA0, 0x08, 5, true},
		{"end and rotate, special, all masked", 0x28, 0xFF, 6, true, false, 0xA0, 0x28, 6, false},
		{"end and rotate of nothing", 0x00, 0, 5, false, false, 0xA0, 0x00, 5, false},
		{"end of nothing with a lowest line beyond 7", 0x00, 0, -9, false, false, 0xA0, 0x00, -9, false},
		{"end of line 5 and rotate", 0x28, 0, 7, false, false, 0xE5, 0x08, 5, false},
		{"end of line 0, not in service, and rotate", 0x28, 0, 7, false, false, 0xE0, 0x28, 0, false},
		{"rotate in the automatic mode", 0x28, 0, 7, false, false, 0x80, 0x28, 7, true},
		{"rotate in the automatic mode again", 0x28, 0, 7, false, true, 0x87, 0x28, 7, true},
		{"no rotation", 0x28, 0, 7, false, true, 0x00, 0x28, 7, false},
		{"no rotation again", 0x28, 0, 7, false, false, 0x07, 0x28, 7, false},
		{"line 2 lowest", 0x28, 0, 7, false, false, 0xC2, 0x28, 2, false},
		{"line 7 lowest", 0x28, 0, 2, false, true, 0xC7, 0x28, 7, true},
		{"line 0 lowest", 0x28, 0, -9, false, false, 0xC0, 0x28, 0, false},
		{"nothing", 0x28, 0, 5, false, false, 0x40, 0x28, 5, false},
		{"nothing, n does not matter", 0x28, 0, 5, true, true, 0x47, 0x28, 5, true},
	} {
		p, want := busy, busy
		p.ISR, p.IMR, p.Lowest, p.Special, p.Rotate = x.isr, x.imr, x.lowest, x.special, x.rotate
		want.ISR, want.IMR, want.Lowest, want.Special, want.Rotate = x.isrAfter, x.imr, x.lowestAfter, x.special, x.rotateAfter
		if got := pic.Write(p, false, x.v); got != want {
			t.Errorf("%s: Write(%+v, false, %#02x) =\n%+v, want\n%+v", x.name, p, x.v, got, want)
		}
	}
}

// P22.5: the modes before and after, as they are shown.
func TestModeExamples(t *testing.T) {
	shown := func(p api.PIC) (modes string) {
		for i, mode := range []bool{p.Special, p.ReadISR, p.Poll} {
			if mode {
				modes += "SIP"[i : i+1]
			} else {
				modes += "."
			}
		}
		return modes
	}
	for _, x := range []struct {
		v          byte
		none, full string // the modes after v, from none and from all of them
	}{
		{0x08, "...", "SIP"}, {0x28, "...", "SIP"}, {0x88, "...", "SIP"}, {0x09, "...", "SIP"}, {0x48, "...", ".IP"}, {0x68, "S..", "SIP"},
		{0x0A, "...", "S.P"}, {0x0B, ".I.", "SIP"}, {0x0C, "..P", "SIP"}, {0x6F, "SIP", "SIP"}, {0x4A, "...", "..P"}, {0x4E, "..P", "..P"},
		{0x29, "...", "SIP"}, {0xEB, "SI.", "SIP"}, {0xCA, "...", "..P"}, {0x2D, "..P", "SIP"},
	} {
		if got := pic.Write(pic.New(), false, x.v); shown(got) != x.none {
			t.Errorf("after %#02x: %s, want %s", x.v, shown(got), x.none)
		}
		got := pic.Write(busy, false, x.v)
		if shown(got) != x.full {
			t.Errorf("after %#02x with all modes: %s, want %s", x.v, shown(got), x.full)
		}
		got.Special, got.ReadISR, got.Poll = true, true, true
		if got != busy {
			t.Errorf("%#02x also changes %+v to %+v", x.v, busy, got)
		}
	}
}

// P22.2 to P22.5: all bytes at both ports, in states of all kinds.
func TestWriteOfAllBytes(t *testing.T) {
	for n := range someStates {
		p := state(n)
		for v := range 256 {
			for _, high := range both {
				check(t, "Write", p, pic.Write(p, high, byte(v)), written(p, high, byte(v)), byte(v), byte(v))
			}
		}
	}
}

// P22.4: all sets of lines in service, with each line the lowest one, and with all masks of one line.
func TestCommandsOfAllServices(t *testing.T) {
	for isr := range 256 {
		for lowest := -1; lowest < 9; lowest++ {
			for masked := range 8 {
				for _, special := range both {
					p := api.PIC{ISR: byte(isr), IMR: 1 << masked, Lowest: lowest, Special: special, Rotate: isr%2 == 0}
					for c := range 64 {
						v := byte(c/8*32 + c%8)
						check(t, "Write", p, pic.Write(p, false, v), written(p, false, v), v, v)
					}
				}
			}
		}
	}
}

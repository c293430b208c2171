package pic_test

import (
	"testing"

	"tstate/api"
	"tstate/opcode"
	"tstate/pic"
	"tstate/priority"
)

// started returns a controller after ICW1 and the words that follow it.
func started(icw1 byte, words ...byte) api.PIC {
	p := pic.Write(pic.New(), false, icw1)
	for _, v := range words {
		p = pic.Write(p, true, v)
	}
	return p
}

// pulses returns the bytes of three pulses. Before the second and the third one, the lines get the levels between.
func pulses(p api.PIC, between ...byte) (api.PIC, [3]byte) {
	var b [3]byte
	for i := range b {
		if i > 0 && len(between) > 0 {
			p = pic.Raise(p, between[i-1])
		}
		p, b[i] = pic.Ack(p)
	}
	return p, b
}

// address returns the address of a Call, after it has checked that the bytes are one.
func address(t *testing.T, b [3]byte) int {
	t.Helper()
	for _, chip := range []int{api.Chip8080, api.Chip8085} {
		if got := opcode.Decode(chip, b[0]); got != (api.Instr{Kind: api.Call, Cond: api.CondAlways, Length: 3}) {
			t.Fatalf("% x is %+v on chip %d", b, got, chip)
		}
	}
	return int(b[1]) + 256*int(b[2])
}

// addressOf returns the call address of a line.
func addressOf(p api.PIC, line int) int {
	if p.Four {
		return int(p.High)*256 + int(p.Low)/32*32 + 4*line
	}
	return int(p.High)*256 + int(p.Low)/64*64 + 8*line
}

// P22.8, and the first example of the chapter.
func TestCallExamples(t *testing.T) {
	for _, x := range []struct {
		icw1  byte
		words []byte
		lines byte
		want  [3]byte
	}{
		{0x16, []byte{0x20}, 0x08, [3]byte{0xCD, 0x0C, 0x20}}, {0x12, []byte{0x20}, 0x08, [3]byte{0xCD, 0x18, 0x20}},
		{0xF6, []byte{0x01}, 0x80, [3]byte{0xCD, 0xFC, 0x01}}, {0xF2, []byte{0x01}, 0x80, [3]byte{0xCD, 0xF8, 0x01}}, {0x36, []byte{0xFF}, 0x03, [3]byte{0xCD, 0x20, 0xFF}},
		{0x32, []byte{0xFF}, 0x06, [3]byte{0xCD, 0x08, 0xFF}}, {0x16, []byte{0x20, 0x08}, 0x18, [3]byte{0xCD, 0x10, 0x20}}, {0x16, []byte{0x20}, 0x00, [3]byte{0xCD, 0x1C, 0x20}},
		{0x1E, []byte{0x20}, 0x40, [3]byte{0xCD, 0x18, 0x20}}, {0x15, []byte{0x20, 0x00, 0x02}, 0x02, [3]byte{0xCD, 0x04, 0x20}},
	} {
		if _, got := pulses(pic.Raise(started(x.icw1, x.words...), x.lines)); got != x.want {
			t.Errorf("ICW1 %#02x, words % x, lines %#02x: % x, want % x", x.icw1, x.words, x.lines, got, x.want)
		}
	}
}

// P22.8: states of all kinds, with lines that change between the pulses: the first pulse settles the line.
func TestCallOfManyStates(t *testing.T) {
	spurious := 0
	for n := range manyStates {
		p := state(n)
		p.Step = 0
		line, ok := next(p)
		if picked := priority.Pick(pic.Requests(p), p.IMR, p.ISR, p.Lowest, p.Special); ok && picked != line {
			t.Fatalf("%+v: the line is %d, want %d", p, picked, line)
		}
		want := with(p.ISR, line)
		if p.Auto {
			want = without(p.ISR, line)
		}
		if !ok {
			line, want, spurious = 7, p.ISR, spurious+1
		}
		noise := bitsOf(n)
		after, b := pulses(p, byte(noise), byte(noise>>8))
		if got := address(t, b); got != addressOf(p, line) {
			t.Fatalf("%+v: a Call to %#04x, want %#04x of line %d", p, got, addressOf(p, line), line)
		}
		if after.ISR != want || after.Step != 0 || after.Spurious != !ok {
			t.Fatalf("%+v: after the pulses %+v, want the lines in service %#02x", p, after, want)
		}
	}
	if spurious < manyStates/10 || spurious > manyStates*9/10 {
		t.Errorf("the states are not varied: %d", spurious)
	}
}

// P22.8: a request that vanishes before the first pulse, because the line falls or is masked, leads to line 7, and changes
// neither the lines in service nor the priorities.
func TestVanishedRequest(t *testing.T) {
	for _, icw1 := range []byte{0x16, 0x17, 0x1E, 0x1F, 0x12} {
		for line := range 8 {
			for _, inService := range []byte{0x00, 2 << line, 0xFE << line} {
				for _, masked := range both {
					p := pic.Write(started(icw1, 0x20), true, 0x02) // ICW4 or the masks
					p = pic.Write(pic.Write(p, true, 0x00), false, 0x80)
					p.ISR = inService
					if p = pic.Raise(p, 1<<line); !pic.Int(p) {
						t.Fatalf("no request of line %d in %+v", line, p)
					}
					if masked {
						p = pic.Write(p, true, 1<<line)
					} else {
						p = pic.Raise(p, 0)
					}
					after, b := pulses(p)
					if address(t, b) != addressOf(p, 7) || after.ISR != inService || after.Lowest != 7 || after.Edge != p.Edge {
						t.Errorf("ICW1 %#02x, line %d, masked %t: % x, %+v", icw1, line, masked, b, after)
					}
				}
			}
		}
	}
}

// P22.8: after a vanished request, the next one is served as ever.
func TestRequestAfterVanishedOne(t *testing.T) {
	p := started(0x17, 0x20, 0x02)
	p, first := pulses(pic.Raise(pic.Raise(p, 0x08), 0x00))
	p, second := pulses(pic.Raise(p, 0x10))
	if address(t, first) != 0x201C || address(t, second) != 0x2010 || p.ISR != 0 || p.Edge != 0 || p.Spurious {
		t.Errorf("% x, % x, %+v", first, second, p)
	}
}

// serveBy takes the one line that requests into service, by a poll or by pulses.
func serveBy(t *testing.T, p api.PIC, line int, poll bool) api.PIC {
	t.Helper()
	if poll {
		p, b := pic.Read(pic.Write(p, false, 0x0C), false)
		if int(b) != 0x80+line {
			t.Fatalf("a poll of line %d yields %#02x", line, b)
		}
		return p
	}
	p, b := pulses(p)
	if got := address(t, b); got != addressOf(p, line) {
		t.Fatalf("the pulses of line %d yield % x", line, b)
	}
	return p
}

// checkBlocked checks that the lines that interrupt are those with a higher priority than a line in service has, or all
// lines if blocked is false.
func checkBlocked(t *testing.T, p api.PIC, line int, blocked bool) {
	t.Helper()
	for other := range 8 {
		before := priority.Rank(other, p.Lowest) < priority.Rank(line, p.Lowest)
		raised := pic.Raise(pic.Raise(p, 0), 1<<other)
		if got, want := pic.Int(raised), before || !blocked; got != want {
			t.Errorf("line %d, in service %t, and a request of line %d: Int %t, want %t, in %+v", line, blocked, other, got, want, raised)
		}
	}
}

// P22.8 with P22.4: a line in service blocks itself and the lines behind it until a command ends its service.
func TestLineInServiceBlocks(t *testing.T) {
	for _, icw1 := range []byte{0x16, 0x1E} {
		for lowest := range 8 {
			for line := range 8 {
				for _, end := range []byte{0x20, 0x60 + byte(line), 0xA0, 0xE0 + byte(line)} {
					for _, poll := range both {
						p := pic.Write(started(icw1, 0x20), false, 0xC0+byte(lowest))
						p = serveBy(t, pic.Raise(p, 1<<line), line, poll)
						checkBlocked(t, p, line, true)
						for _, other := range []byte{0x40, 0xC0 + byte(lowest), 0x80, 0x00, 0x60 + byte(line^1), 0x0B} {
							p = pic.Write(p, false, other)
						}
						checkBlocked(t, p, line, true)
						checkBlocked(t, pic.Write(p, false, end), line, false)
					}
				}
			}
		}
	}
}

// P22.8 with P22.7: with the automatic end, a line blocks from the first pulse to the third one.
func TestAutomaticEnd(t *testing.T) {
	for line := range 8 {
		for _, rotate := range both {
			p := started(0x17, 0x20, 0x02)
			if rotate {
				p = pic.Write(p, false, 0x80)
			}
			p = pic.Raise(p, 1<<line)
			for pulse := range 3 {
				p, _ = pic.Ack(p)
				checkBlocked(t, p, line, pulse < 2)
			}
			if rotate && p.Lowest != line || !rotate && p.Lowest != 7 {
				t.Errorf("after line %d, rotating %t, the lowest line is %d", line, rotate, p.Lowest)
			}
		}
	}
}

// P22.8 with P22.4, and the second example of the chapter: services within each other end from the highest one on.
func TestNestedServices(t *testing.T) {
	p := started(0x16, 0x20)
	for _, line := range []int{5, 2, 0} {
		p = serveBy(t, pic.Raise(p, p.Lines|1<<line), line, false)
		checkBlocked(t, p, line, true)
	}
	for _, isr := range []byte{0x24, 0x20, 0x00, 0x00} {
		if p = pic.Write(p, false, 0x20); p.ISR != isr {
			t.Errorf("in service: %#02x, want %#02x", p.ISR, isr)
		}
	}
}

// P22.4 and P22.8: with special masks, a masked line in service blocks nothing, and an end spares it.
func TestSpecialMasks(t *testing.T) {
	p := serveBy(t, pic.Raise(started(0x16, 0x20), 0x04), 2, false)
	p = pic.Write(pic.Write(p, true, 0x04), false, 0x68)
	p = serveBy(t, pic.Raise(p, 0x24), 5, false)
	if p = pic.Write(p, false, 0x20); p.ISR != 0x04 {
		t.Errorf("in service: %#02x, want line 2 alone", p.ISR)
	}
	if p = pic.Write(p, false, 0x20); p.ISR != 0x04 {
		t.Errorf("in service: %#02x, want line 2 alone", p.ISR)
	}
	if p = pic.Write(pic.Write(p, false, 0x48), false, 0x20); p.ISR != 0 {
		t.Errorf("in service: %#02x, want none", p.ISR)
	}
}

// P22.4, P22.6 and P22.7: when all lines request all the time, rotation serves them in turn, and no rotation line 0 alone.
func TestRotationServesLinesInTurn(t *testing.T) {
	inTurn := []int{0, 1, 2, 3, 4, 5, 6, 7, 0, 1}
	for _, x := range []struct {
		name       string
		start, end byte // the commands at the beginning and after each service
		auto       byte
		want       []int
	}{
		{"ends that rotate", 0x40, 0xA0, 0x00, inTurn}, {"automatic ends that rotate", 0x80, 0x40, 0x02, inTurn},
		{"ends", 0x40, 0x20, 0x00, make([]int, 10)}, {"automatic ends", 0x00, 0x40, 0x02, make([]int, 10)},
		{"ends, with the rotation of the automatic mode", 0x80, 0x20, 0x00, make([]int, 10)},
	} {
		for _, poll := range both {
			p := pic.Raise(pic.Write(started(0x1F, 0x20, x.auto), false, x.start), 0xFF)
			for i, line := range x.want {
				if !pic.Int(p) {
					t.Fatalf("%s: no request after %d services", x.name, i)
				}
				p = pic.Write(serveBy(t, p, line, poll), false, x.end)
			}
		}
	}
}

package board_test

import (
	"slices"
	"strings"
	"testing"

	"tstate/api"
	"tstate/memory"
	"tstate/script"
)

// program returns a board with RAM and a program.
func program(t *testing.T, chip int, text string) api.Board {
	t.Helper()
	return ram(chip, assemble(t, chip, text)...)
}

// idle returns letters of n idle inputs.
func idle(n int) string { return strings.Repeat(".", n) }

// P25.3: a program on both chips, from the first state to the halt states.
func TestProgram(t *testing.T) {
	const text = "mvi a,0x05; sta 0x1234; out 0x07; hlt"
	r := play(t, scene{
		board: program(t, api.Chip8080, text), letters: idle(39),
		states: "1234123 1234123123123 1234123123 1234123 zz",
		items: `fetch 0000 3e 4/4
			read 0001 05 3/3
			fetch 0002 32 4/4
			read 0003 34 3/3
			read 0004 12 3/3
			write 1234 05 3/3
			fetch 0005 d3 4/4
			read 0006 07 3/3
			out 0707 05 3/3
			fetch 0007 76 4/4
			halted 0007 00 3/3
			halt 2 0008`,
		events: `instr 3e05
			instr 32341205
			instr d30705
			instr 7600`,
	})
	if c := r.CPUs; c[0].Regs.A != 5 || c[0].Regs.PC != 2 || c[1].Regs.PC != 5 || c[2].Regs.PC != 7 || c[2].Halted || !c[3].Halted || c[3].Regs.PC != 8 {
		t.Errorf("the CPU states are %+v", c)
	}
	if s := r.System; !slices.Equal(s.Outs, []api.Output{{Port: 7, Val: 5}}) || memory.Get(s.Memory, 0x1234) != 5 || s.Core.Next != api.THalt || s.Core.CPU != r.CPUs[3] {
		t.Errorf("the system at the end is %+v", s)
	}
	play(t, scene{
		board: program(t, api.Chip8085, text), letters: idle(36),
		states: "1234123 1234123123123 1234123123 12345 z",
		items: `fetch 0000 3e 4/4
			read 0001 05 3/3
			fetch 0002 32 4/4
			read 0003 34 3/3
			read 0004 12 3/3
			write 1234 05 3/3
			fetch 0005 d3 4/4
			read 0006 07 3/3
			out 0707 05 3/3
			fetch 0007 76 5/5
			halt 1 0008`,
		events: `instr 3e05
			instr 32341205
			instr d30705
			instr 76`,
	})
}

// P25.3: nothing happens without entries. Entries with wrong check bytes are idle, and an incomplete one counts for nothing.
func TestScripts(t *testing.T) {
	b := program(t, api.Chip8080, "nop; nop")
	for n, extra := range [][]byte{nil, {}, {0}, {0x04, 0, 0}} {
		r := run(t, b, extra)
		if !sameRun(r, api.Run{System: beginning(b)}) {
			t.Errorf("%d: without entries there is %+v", n, r)
		}
	}
	s := append(entries("..rrr", 0), 0, 0, 0)
	for _, at := range []int{11, 14, 17} {
		s[at] ^= 0x10
	}
	if r := run(t, b, s); tracedStates(r.Trace) != "12341" || len(r.Events) != 2 {
		t.Errorf("with wrong check bytes there are the states %s", tracedStates(r.Trace))
	}
	long := slices.Repeat(script.Encode([]api.Input{{Ready: true, Hold: true}}), api.MaxScript+9)
	if r := run(t, b, long); len(r.Trace) != api.MaxScript || len(r.Items) != 2 || r.Items[1].N != api.MaxScript-4 {
		t.Errorf("a long script has %d states and %d items", len(r.Trace), len(r.Items))
	}
}

// P25.3: the wait states of regions, ports and READY. In a state in which READY does not matter, its level is low if the
// cycle needs wait states.
func TestWaitStates(t *testing.T) {
	b := program(t, api.Chip8085, "push b; in 0x07; out 0x08; dad b")
	b.Regions = []api.Region{{From: 0xFFFF, To: 0xFFFF, RAM: true}, {From: 0x0000, To: 0xFFFF, RAM: true, Waits: 1}}
	b.IOWaits = 2
	play(t, scene{
		board: b, port: 0x5A,
		letters: "....... ... .... ..... .... ..wwww.. ..... .... ..... .w... www w",
		states:  "12w3456 123 12w3 12w34 12w3 12wwwww3 12w34 12w3 12ww3 12w34 123 1",
		items: `fetch 0000 c5 6/6 w1
			push ffff 00 3/3
			push fffe 00 3/3 w1
			fetch 0001 db 4/4 w1
			read 0002 07 3/3 w1
			in 0707 5a 3/3 w5
			fetch 0003 d3 4/4 w1
			read 0004 08 3/3 w1
			out 0808 5a 3/3 w2
			fetch 0005 09 4/4 w1
			idle 0005 00 3/3
			idle 0005 00 1/3`,
		events: `instr c50000
			instr db075a
			instr d3085a
			open 0900`,
		levels: `-
			-
			-
			-`,
	})
	play(t, scene{
		board: program(t, api.Chip8080, "nop; nop"), letters: ".ww..w .... .ww", states: "12ww34 1234 12w",
		items: `fetch 0000 00 4/4 w2
			fetch 0001 00 4/4
			fetch 0002 00 2/4 w1`,
		levels: `-
			ready
			-`,
	})
}

// P25.3: hold states come after the cycle in whose T2, or last wait state, HOLD is high. Neighbouring ones are one item,
// also between the cycles of an instruction, which they do not end.
func TestHoldStates(t *testing.T) {
	play(t, scene{
		board:   program(t, api.Chip8080, "mvi a,0x05; nop; nop; mvi a,0x06"),
		letters: "h.hh .h. h. .wh.. . .x... .h.. hh. ..h",
		states:  "1234 123 hh 12w34 h 12w34 1234 hhh 123",
		items: `fetch 0000 3e 4/4
			read 0001 05 3/3
			hold 2
			fetch 0002 00 4/4 w1
			hold 1
			fetch 0003 00 4/4 w1
			fetch 0004 3e 4/4
			hold 3
			read 0005 06 3/3`,
		events: `instr 3e05
			instr 00
			instr 00
			instr 3e06`,
		levels: `ready
			ready
			ready
			ready hold`,
	})
}

// P25.3: halt states have the address of PC. With hold states between them they are items of their own.
func TestHaltStates(t *testing.T) {
	r := play(t, scene{
		board: program(t, api.Chip8080, "ei; hlt"), letters: ".... ....... .h h. .i . .", states: "1234 1234123 zz hh zz h 1",
		items: `fetch 0000 fb 4/4
			fetch 0001 76 4/4 inte
			halted 0001 00 3/3 inte
			halt 2 0002 inte
			hold 2 inte
			halt 2 0002 inte
			hold 1
			ack 0002 00 1/4`,
		events: `instr fb
			instr 7600
			open intr`,
	})
	if c := r.CPUs; !c[0].Delay || !c[0].IE || !c[1].Halted || c[2] != c[1] || r.System.Core.CPU.Halted {
		t.Errorf("the CPU states are %+v", c)
	}
	play(t, scene{
		board: program(t, api.Chip8085, "mvi a,0xc0; sim; hlt"), letters: "....... .... ..... .h .", states: "1234123 1234 12345 zz h",
		items: `fetch 0000 3e 4/4
			read 0001 c0 3/3
			fetch 0002 30 4/4
			fetch 0003 76 5/5 sod
			halt 2 0004 sod
			hold 1 sod`,
	})
}

// P25.3: RESET in each state of an instruction, and after it. It cuts off the instruction from the first state on.
func TestResetInEachState(t *testing.T) {
	for n, want := range []string{
		"reset", "cut\nreset", "cut\nreset", "cut 3e\nreset", "cut 3e\nreset", "cut 3e\nreset", "cut 3e\nreset", "instr 3e05\nreset", "instr 3e05\ncut\nreset",
	} {
		for _, chip := range both {
			r := play(t, scene{board: program(t, chip, "mvi a,0x05; nop"), letters: idle(n) + "r", events: want})
			last := len(r.CPUs) - 1
			if c := r.System.Core.CPU; r.CPUs[last] != c || c.Regs.PC != 0 || (c.Regs.A == 5) != (n > 6) {
				t.Errorf("RESET after %d states leads to %+v, and the CPU states are %+v", n, c, r.CPUs)
			}
			before := beginning(program(t, chip, "nop")).Core.CPU
			if last == 2 {
				before = r.CPUs[0]
			}
			if last > 0 && strings.Contains(want, "cut") && r.CPUs[last-1] != before {
				t.Errorf("RESET after %d states: the CPU states are %+v", n, r.CPUs)
			}
		}
	}
}

// P25.3: RESET in wait, hold and halt states. In the latter, and in hold states after an instruction, it cuts off none.
func TestResetInOtherStates(t *testing.T) {
	play(t, scene{
		board: program(t, api.Chip8080, "mvi a,0x05"), letters: ".ww r .", states: "12w r 1",
		items:  "fetch 0000 00 2/4 w1\nreset 1\nfetch 0000 00 1/4",
		events: "cut\nreset\nopen", levels: "ready reset\nready reset\n-",
	})
	play(t, scene{
		board: program(t, api.Chip8080, "mvi a,0x05"), letters: ".h.. h r", states: "1234 h r",
		items: "fetch 0000 3e 4/4\nhold 1\nreset 1", events: "cut 3e\nreset",
	})
	play(t, scene{
		board: program(t, api.Chip8080, "nop"), letters: ".h.. h r r .", states: "1234 h r r 1",
		items: "fetch 0000 00 4/4\nhold 1\nreset 2\nfetch 0000 00 1/4", events: "instr 00\nreset\nreset\nopen",
	})
	play(t, scene{
		board: program(t, api.Chip8085, "hlt"), letters: "..... . r", states: "12345 z r",
		items: "fetch 0000 76 5/5\nhalt 1 0001\nreset 1", events: "instr 76\nreset",
	})
}

// P25.3: states of RESET with different levels of IE or SOD are different items. A service that has not begun is cut off.
func TestResetAndLevels(t *testing.T) {
	b := program(t, api.Chip8080, "ei; nop; nop")
	b.Jam = true
	play(t, scene{
		board: b, letters: ".... . rrr", states: "1234 1 rrr",
		items:  "fetch 0000 fb 4/4\nfetch 0001 00 1/4 inte\nreset 1 inte\nreset 2",
		events: "instr fb\ncut\nreset\nreset\nreset",
	})
	play(t, scene{
		board: b, letters: ".... ...A rr", states: "1234 1234 rr",
		items: "fetch 0000 fb 4/4\nfetch 0001 00 4/4 inte\nreset 2", events: "instr fb\ninstr 00\ncut intr\nreset\nreset",
	})
	play(t, scene{
		board: b, letters: ".... ...A .... r", port: 0xCD, states: "1234 1234 1234 r",
		items:  "fetch 0000 fb 4/4\nfetch 0001 00 4/4 inte\nack 0002 cd 4/5\nreset 1",
		events: "instr fb\ninstr 00\ncut intr cd\nreset",
	})
	play(t, scene{
		board: program(t, api.Chip8085, "mvi a,0xc0; sim"), letters: "....... .... r r", states: "1234123 1234 r r",
		items: "fetch 0000 3e 4/4\nread 0001 c0 3/3\nfetch 0002 30 4/4\nreset 1 sod\nreset 1", events: "instr 3ec0\ninstr 30\nreset\nreset",
	})
}

// P25.3: the latches of the events: after the state for an instruction, before it for RESET.
func TestLatches(t *testing.T) {
	b := program(t, api.Chip8085, "nop; nop; nop")
	r := play(t, scene{
		board: b, letters: ".7.. .... .. q r q ..", states: "1234 1234 12 r r r 12",
		events: "instr 00\ninstr 00\ncut\nreset\nreset\nreset\nopen",
		levels: `ready R75
			ready R75
			ready reset trap 75 R75
			ready reset trap 75 R75
			ready reset
			ready reset trap 75
			-`,
	})
	if r.System.Core.CPU.WasTrap || !r.CPUs[1].R75 || r.CPUs[3].R75 {
		t.Errorf("the CPU states are %+v", r.CPUs)
	}
	play(t, scene{
		board: b, letters: "...7 ...7 ..t. ...t", events: "instr 00\ninstr 00\ninstr 00\ninstr 00\nopen trap",
		levels: "ready 75 R75 WAS75\nready 75 R75 WAS75\nready R75\nready trap TRAP R75 WASTRAP\n-",
	})
	play(t, scene{
		board: b, letters: "...t tttttt ttt ttt", events: "instr 00\ninternal trap 000001",
		levels: "ready trap TRAP WASTRAP\nready trap WASTRAP",
	})
	play(t, scene{board: program(t, api.Chip8080, "nop"), letters: "tt77 q", events: "instr 00\nreset", levels: "ready 75\nready reset trap 75"})
}

// P25.3: injected instructions from the input port, with Jam: all their bytes come from the port, and PC stays.
func TestInjectedFromThePort(t *testing.T) {
	b := program(t, api.Chip8085, "ei; nop; nop")
	b.Jam = true
	r := play(t, scene{
		board: b, letters: ".... ...A ....... ....", port: 0x3E, states: "1234 1234 1234123 1234",
		items: `fetch 0000 fb 4/4
			fetch 0001 00 4/4 inte
			ack 0002 3e 4/4
			more 0002 3e 3/3
			fetch 0002 00 4/4`,
		events: "instr fb\ninstr 00\ninject intr 3e3e\ninstr 00",
		levels: "ready\nready intr\nready\nready",
	})
	if c := r.CPUs; !c[1].IE || c[1].Regs.A != 0 || c[2].IE || c[2].Regs.A != 0x3E || c[2].Regs.PC != 2 || c[3].Regs.PC != 3 {
		t.Errorf("the CPU states are %+v", c)
	}
	b = program(t, api.Chip8080, "ei; nop; nop")
	b.Jam = true
	r = play(t, scene{
		board: b, letters: "...A ...A ...........", port: 0xFF, states: "1234 1234 12345123123",
		items: `fetch 0000 fb 4/4
			fetch 0001 00 4/4 inte
			ack 0002 ff 5/5
			push ffff 00 3/3
			push fffe 02 3/3`,
		events: "instr fb\ninstr 00\ninject intr ff0002",
	})
	if r.System.Core.CPU.Regs.PC != 0x38 || memory.Get(r.System.Memory, 0xFFFE) != 2 {
		t.Errorf("the system at the end is %+v", r.System)
	}
}

// P25.3: an injected call of the controller, also one whose request vanishes before the first pulse, or whose sequence is
// cut off.
func TestInjectedByTheController(t *testing.T) {
	const text = "mvi a,0x16; out 0x20; mvi a,0x20; out 0x21; ei; nop; nop"
	for _, x := range []struct {
		chip          int
		letters       string
		events, items string
		pc            uint16
		isr           byte
		step          int
	}{
		{api.Chip8080, "DDDDD ... ... ... ...", "inject intr cd0c20000a", "ack 000a cd 5/5\nmore 000a 0c 3/3\nmore 000a 20 3/3\npush ffff 00 3/3\npush fffe 0a 3/3", 0x200C, 8, 0},
		{api.Chip8085, "DDDDDD ... ... ... ...", "inject intr cd0c20000a", "ack 000a cd 6/6\nmore 000a 0c 3/3\nmore 000a 20 3/3\npush ffff 00 3/3\npush fffe 0a 3/3", 0x200C, 8, 0},
		{api.Chip8080, "DD... ... ... ... ...", "inject intr cd1c20000a", "ack 000a cd 5/5\nmore 000a 1c 3/3\nmore 000a 20 3/3\npush ffff 00 3/3\npush fffe 0a 3/3", 0x201C, 0, 0},
		{api.Chip8080, "DDBBB ... ... ... ...", "inject intr cd0420000a", "ack 000a cd 5/5\nmore 000a 04 3/3\nmore 000a 20 3/3\npush ffff 00 3/3\npush fffe 0a 3/3", 0x2004, 2, 0},
		{api.Chip8080, "DDDDD ... ..", "open intr cd0c", "ack 000a cd 5/5\nmore 000a 0c 3/3\nmore 000a 00 2/3", 0x000A, 8, 2},
		{api.Chip8080, "DDDDD ... r", "cut intr cd0c\nreset", "ack 000a cd 5/5\nmore 000a 0c 3/3\nreset 1", 0x0000, 8, 0},
		{api.Chip8080, "DDr", "cut intr\nreset", "ack 000a 00 2/4\nreset 1", 0x0000, 0, 0},
	} {
		b := program(t, x.chip, text)
		r := run(t, b, entries(idle(41)+"D"+x.letters, 0x55))
		if got := strings.Join(eventTexts(r.Events)[6:], "\n"); got != x.events {
			t.Errorf("%s leads to the events %q, want %q", x.letters, got, x.events)
		}
		if got := strings.Join(itemTexts(r.Items)[12:], "\n"); got != x.items {
			t.Errorf("%s leads to the items %q, want %q", x.letters, got, x.items)
		}
		if s := r.System; s.Core.CPU.Regs.PC != x.pc || s.PIC.ISR != x.isr || s.PIC.Step != x.step {
			t.Errorf("%s leads to %+v", x.letters, s)
		}
	}
}

// P25.3: the internal restarts, each with its line in the last state of an instruction.
func TestInternalRestarts(t *testing.T) {
	b := program(t, api.Chip8085, "mvi a,0x08; sim; ei; nop")
	for letter, x := range map[string]struct {
		name, level string
		vector      uint16
	}{
		"t": {"trap", "ready trap TRAP WASTRAP", 0x24}, "7": {"75", "ready 75 R75 WAS75", 0x3C}, "6": {"65", "ready 65", 0x34}, "5": {"55", "ready 55", 0x2C},
	} {
		r := play(t, scene{
			board: b, letters: idle(18) + letter + "...... ... ... .", states: "1234123 1234 1234 1234 123456 123 123 1",
			items: `fetch 0000 3e 4/4
				read 0001 08 3/3
				fetch 0002 30 4/4
				fetch 0003 fb 4/4
				fetch 0004 00 4/4 inte
				rst 0005 00 6/6
				push ffff 00 3/3
				push fffe 05 3/3
				fetch ` + map[uint16]string{0x24: "0024", 0x3C: "003c", 0x34: "0034", 0x2C: "002c"}[x.vector] + ` 00 1/4`,
			events: "instr 3e08\ninstr 30\ninstr fb\ninstr 00\ninternal " + x.name + " 000005\nopen",
			levels: "ready\nready\nready\n" + x.level + "\nready\n-",
		})
		if c := r.CPUs; !c[3].IE || c[3].Regs.PC != 5 || c[4].IE || c[4].Regs.PC != x.vector || c[4].Regs.SP != 0xFFFE || c[5] != c[4] {
			t.Errorf("the CPU states are %+v", c)
		}
	}
}

// P25.3: the levels of an event are those that the processor had in the last state of the instruction, and not before.
func TestLevelsOfEvents(t *testing.T) {
	b := program(t, api.Chip8085, "rim; nop; nop; nop; nop; nop; nop; nop")
	r := play(t, scene{
		board: b, letters: "...s sss. 666. ...6 ..5. ...5 hhh. . ...w ..A.",
		events: "instr 20\ninstr 00\ninstr 00\ninstr 00\ninstr 00\ninstr 00\ninstr 00\ninstr 00\ninstr 00",
		levels: "ready sid\nready\nready\nready 65\nready\nready 55\nready\n-\nready",
	})
	if r.CPUs[0].Regs.A != 0x87 {
		t.Errorf("RIM reads %#02x", r.CPUs[0].Regs.A)
	}
	// The request of a line of the controller stays as long as its level.
	play(t, scene{board: b, letters: "...A AAAA ....", events: "instr 20\ninstr 00\ninstr 00", levels: "ready intr\nready intr\nready"})
}

// P25.3: what is under way at the end of the script, and the CPU state that belongs to it.
func TestOpenInstructions(t *testing.T) {
	for n, want := range []string{
		"", "open", "open", "open 3e", "open 3e", "open 3e", "open 3e", "instr 3e05", "instr 3e05\nopen", "instr 3e05\nopen", "instr 3e05\nopen 00", "instr 3e05\ninstr 00",
	} {
		r := run(t, program(t, api.Chip8080, "mvi a,0x05; nop"), entries(idle(n), 0))
		if got := strings.Join(eventTexts(r.Events), "\n"); got != want {
			t.Errorf("after %d states there are the events %q, want %q", n, got, want)
		}
		for i, e := range r.Events {
			after := beginning(program(t, api.Chip8080, "nop")).Core.CPU
			if i > 0 {
				after = r.CPUs[i-1]
			}
			if e.Kind == api.EvOpen && r.CPUs[i] != after {
				t.Errorf("after %d states the CPU states are %+v", n, r.CPUs)
			}
		}
	}
	b := program(t, api.Chip8085, "ei; mvi a,0x05; nop")
	b.Jam = true
	for letters, want := range map[string]string{
		".h.. h": "instr fb", ".... .h.. hh": "instr fb\nopen 3e", ".... ..A": "instr fb\nopen 3e", ".... ......A": "instr fb\ninstr 3e05\nopen intr",
		".... .... .hA hhh": "instr fb\ninstr 3e05\nopen intr", ".... ..t....": "instr fb\ninstr 3e05", ".... ......t": "instr fb\ninstr 3e05\nopen trap",
	} {
		if r := run(t, b, entries(letters, 0)); strings.Join(eventTexts(r.Events), "\n") != want {
			t.Errorf("%s leads to the events %q, want %q", letters, eventTexts(r.Events), want)
		}
	}
}

// transfer returns a board with a program that has the DMA master write n times 0x77, from an address on, in 68 states and
// 20 cycles, and goes on at 0x0010.
func transfer(t *testing.T, chip int, at uint16, n byte, text string) api.Board {
	t.Helper()
	b := program(t, chip, "mvi a,0x00; out 0x40; mvi a,0x00; out 0x41; mvi a,0x77; out 0x42; mvi a,0x00; out 0x43; "+text)
	for where, v := range map[uint16]byte{1: byte(at), 5: byte(at >> 8), 13: n} {
		b.Image = memory.Put(b.Image, where, v)
	}
	return b
}

// P25.3: the bytes of the DMA master, after an instruction, within one, whose operand it changes, in ROM, in hold states
// of a halted processor, and cut off by RESET.
func TestBytesOfTheMaster(t *testing.T) {
	rom := transfer(t, api.Chip8085, 0x0010, 1, "nop; nop")
	rom.Regions = []api.Region{{From: 0x0000, To: 0x0FFF}}
	for i, x := range []struct {
		board         api.Board
		letters       string
		states        string
		items, events string
		levels        string
		at            uint16
		value         byte
		left          int
	}{
		{
			transfer(t, api.Chip8080, 0x3000, 2, "nop; nop"), ".... ... .... .", "1234 hhh 1234 1", "fetch 0010 00 4/4\nhold 3\nfetch 0011 00 4/4\nfetch 0012 00 1/4",
			"instr 00\ndma 3000=77\ndma 3001=77\ninstr 00\nopen", "ready hold\n-\n-\nready\n-", 0x3001, 0x77, 0,
		},
		{
			transfer(t, api.Chip8085, 0x0011, 1, "mvi a,0x05; nop"), ".... .. ... .", "1234 hh 123 1", "fetch 0010 3e 4/4\nhold 2\nread 0011 77 3/3\nfetch 0012 00 1/4",
			"dma 0011=77\ninstr 3e77\nopen", "-\nready\n-", 0x0011, 0x77, 0,
		},
		{
			transfer(t, api.Chip8080, 0xFFFF, 2, "inr a"), "..... ..h h. ....", "12345 hhh hh 1234", "fetch 0010 3c 5/5\nhold 5\nfetch 0011 00 4/4",
			"instr 3c\ndma ffff=77\ndma 0000=77\ninstr 00", "ready hold\n-\n-\nready", 0x0000, 0x77, 0,
		},
		{rom, ".... .. ...", "1234 hh 123", "fetch 0010 00 4/4\nhold 2\nfetch 0011 00 3/4", "instr 00\ndma 0010=77\nopen 00", "", 0x0010, 0x00, 0},
		{
			transfer(t, api.Chip8085, 0x3000, 3, "hlt"), "..... .... ..", "12345 hhhh zz", "fetch 0010 76 5/5\nhold 4\nhalt 2 0011",
			"instr 76\ndma 3000=77\ndma 3001=77\ndma 3002=77", "", 0x3002, 0x77, 0,
		},
		{transfer(t, api.Chip8080, 0x3000, 3, "nop; nop"), ".... . r ..", "1234 h r 12", "fetch 0010 00 4/4\nhold 1\nreset 1\nfetch 0000 00 2/4", "instr 00\ndma 3000=77\nreset\nopen", "", 0x3001, 0x00, 0},
		{transfer(t, api.Chip8080, 0x3000, 9, "nop; nop"), ".... ..", "1234 hh", "fetch 0010 00 4/4\nhold 2", "instr 00\ndma 3000=77\ndma 3001=77", "", 0x3001, 0x77, 7},
		{transfer(t, api.Chip8080, 0x3000, 0, "nop; nop"), ".h.. h. .", "1234 hh 1", "fetch 0010 00 4/4\nhold 2\nfetch 0011 00 1/4", "instr 00\nopen", "", 0x3000, 0x00, 0},
	} {
		r := run(t, x.board, entries(idle(68)+x.letters, 0))
		if got := tracedStates(r.Trace)[68:]; got != strings.ReplaceAll(x.states, " ", "") {
			t.Errorf("%d: the states are %s", i, got)
		}
		if got := strings.Join(itemTexts(r.Items)[20:], "\n"); got != x.items {
			t.Errorf("%d: the items are %q, want %q", i, got, x.items)
		}
		if got := strings.Join(eventTexts(r.Events)[8:], "\n"); got != x.events {
			t.Errorf("%d: the events are %q, want %q", i, got, x.events)
		}
		if got := levelTexts(r.Events); got[7] != "ready" || x.levels != "" && !slices.Equal(got[8:], lines(x.levels)) {
			t.Errorf("%d: the levels are %q", i, got[7:])
		}
		if s := r.System; memory.Get(s.Memory, x.at) != x.value || s.DMA.Left != x.left {
			t.Errorf("%d: the system at the end is %+v", i, s)
		}
		for k, e := range r.Events {
			if e.Kind == api.EvDma && r.CPUs[k] != r.CPUs[k-1] {
				t.Errorf("%d: the CPU states are %+v", i, r.CPUs)
			}
		}
	}
}

// P25.3 and P25.4: what a run shares with its arguments and within itself: nothing.
func TestRunLeavesItsArguments(t *testing.T) {
	m := newMaker()
	for range 60 {
		b, _ := clones(m.playable(m.one(both)), api.System{})
		kept := b
		kept.Regions, kept.Image = slices.Clone(full(b.Regions)), slices.Clone(full(b.Image))
		inputs, s := m.play(400)
		keptScript := slices.Clone(full(s))
		r := run(t, b, s)
		want := recorded(b, inputs)
		overwrite(s, 0x55)
		overwrite(b.Regions, api.Region{})
		overwrite(b.Image, api.Cell{})
		checkRecord(t, r, want)
		copy(full(s), keptScript)
		copy(full(b.Regions), kept.Regions)
		copy(full(b.Image), kept.Image)
		for i := range r.Events {
			overwrite(r.Events[i].Bytes, 0x55)
			r.Events[i].Bytes = want.Events[i].Bytes
			checkRecord(t, r, want)
		}
		overwriteSystem(r.System)
		r.System = want.System
		checkRecord(t, r, want)
		if !slices.Equal(full(b.Regions), kept.Regions) || !slices.Equal(full(b.Image), kept.Image) || !slices.Equal(full(s), keptScript) {
			t.Fatal("a run changes its arguments")
		}
	}
}

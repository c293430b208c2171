package core_test

import (
	"slices"
	"testing"

	"tstate/api"
	"tstate/core"
)

// Opcodes of the scenes.
const (
	nop, ei, di, hlt = 0x00, 0xFB, 0xF3, 0x76
	mvi, dad         = 0x3E, 0x09
	call, rst7       = 0xCD, 0xFF
	rim              = 0x20
)

// next, held and halted are the outcomes of scenes that end before an instruction from memory.
func next(pc uint16) outcome   { return outcome{api.FromNone, api.T1, api.CycFetch, pc} }
func held(pc uint16) outcome   { return outcome{api.FromNone, api.THold, api.CycFetch, pc} }
func halted(pc uint16) outcome { return outcome{api.FromNone, api.THalt, api.CycFetch, pc} }

// served is the outcome of a scene that ends before the first state of a service.
func served(source int, pc uint16) outcome {
	if source == api.FromIntr {
		return outcome{source, api.T1, api.CycAck, pc}
	}
	return outcome{source, api.T1, api.CycRst, pc}
}

// P20.2: READY counts in T2 and in wait states alone, and not in cycles that do not access the bus.
func TestWaits(t *testing.T) {
	for _, s := range []scene{
		{1, []byte{nop}, nil, "....", "1234", next(1)}, {2, []byte{nop}, nil, "....", "1234", next(1)},
		{1, []byte{nop}, nil, "w.ww", "1234", next(1)}, {2, []byte{nop}, nil, "w.ww", "1234", next(1)},
		{1, []byte{nop}, nil, ".w.ww", "12w34", next(1)}, {2, []byte{nop}, nil, ".wwww...", "12wwww34", next(1)},
		{1, []byte{nop}, nil, "wwwwwwww", "12wwwwww", outcome{0, api.TWait, api.CycFetch, 0}},
		{2, []byte{nop, nop}, nil, ".w....w.", "12w3412w", outcome{0, api.T3, api.CycFetch, 1}},
		{1, []byte{mvi, 5}, nil, ".w...wwww.", "12w3412www", outcome{0, api.T3, api.CycRead, 0}},
		{1, []byte{dad}, nil, "..wwwwwwww", "1234123123", next(1)}, {2, []byte{dad}, nil, "..wwwwwwww", "1234123123", next(1)},
		{1, []byte{hlt}, nil, "..wwwwwww", "1234123zz", halted(1)}, {2, []byte{hlt}, nil, "..wwwwwww", "12345zzzz", halted(1)},
	} {
		play(t, s, nil)
	}
}

// P20.2: HOLD counts in the last state before T3, and leads to hold states behind the cycle, before halt states.
func TestHolds(t *testing.T) {
	for _, s := range []scene{
		{1, []byte{nop}, nil, ".h....", "1234h1", outcome{0, api.T2, api.CycFetch, 1}}, {2, []byte{nop}, nil, ".h...", "1234h", next(1)},
		{1, []byte{nop}, nil, "h.hh", "1234", next(1)}, {2, []byte{nop}, nil, "h.hh", "1234", next(1)},
		{2, []byte{nop}, nil, ".h..", "1234", held(1)}, {2, []byte{nop}, nil, ".h..hhh", "1234hhh", held(1)}, {2, []byte{nop}, nil, ".h..hHw", "1234hhh", next(1)},
		{1, []byte{nop}, nil, ".H...", "12w34", next(1)}, {1, []byte{nop}, nil, ".wHw...", "12www34", next(1)},
		{1, []byte{nop}, nil, ".wh..", "12w34", held(1)}, {2, []byte{nop}, nil, ".Hh...", "12w34h", next(1)},
		{1, []byte{mvi, 5}, nil, ".h......", "1234h123", next(2)}, {1, []byte{mvi, 5}, nil, ".....h..", "1234123h", next(2)},
		{2, []byte{mvi, 5}, nil, ".h.h..h.", "1234h123", held(2)}, {2, []byte{mvi, 5}, nil, ".h...h.h", "1234h123", next(2)},
		{1, []byte{dad}, nil, ".....H.....", "1234123h123", next(1)}, {1, []byte{dad}, nil, "........h..", "1234123123h", next(1)},
		{2, []byte{dad}, nil, ".......h.h.", "12341231231", outcome{0, api.T2, api.CycFetch, 1}},
		{2, []byte{hlt}, nil, ".h.....", "12345hz", halted(1)}, {1, []byte{hlt}, nil, ".....h...", "1234123hz", halted(1)},
		{1, []byte{hlt}, nil, ".h........", "1234h123zz", halted(1)}, {2, []byte{hlt}, nil, "......hh..", "12345zzhhz", halted(1)},
		{2, []byte{hlt}, nil, ".....h", "12345z", held(1)}, {2, []byte{hlt}, nil, ".....hh", "12345zh", held(1)}, {1, []byte{hlt}, nil, "........h", "1234123zz", held(1)},
	} {
		play(t, s, nil)
	}
}

// enabled enables all interrupts.
func enabled(c *api.CPU) { c.IE, c.Mask = true, 0 }

// P20.2: the lines are sampled in the last state of an instruction. An injected instruction takes its bytes from outside.
func TestInjectedInstructions(t *testing.T) {
	for _, s := range []scene{
		{1, []byte{nop}, nil, "...i", "1234", served(5, 1)}, {1, []byte{nop}, nil, "iii.", "1234", next(1)},
		{2, []byte{nop}, nil, "...i", "1234", served(5, 1)}, {2, []byte{nop}, nil, "iii.", "1234", next(1)},
		{1, []byte{mvi, 5}, nil, "iiiiii.", "1234123", next(2)}, {1, []byte{mvi, 5}, nil, "......i", "1234123", served(5, 2)},
		{1, []byte{di}, nil, "iiii", "1234", next(1)}, {1, []byte{ei}, nil, "iiii", "1234", next(1)}, {1, []byte{ei, nop}, nil, "iiiiiiii", "12341234", served(5, 2)},
		{1, []byte{ei, ei, nop}, nil, "iiiiiiiiiiii", "123412341234", served(5, 3)}, {1, []byte{ei, di, nop}, nil, "iiiiiiiiiiii", "123412341234", next(3)},
		{1, []byte{nop}, []byte{rst7}, "...iiiiiiiiiiii", "123412345123123", next(0x38)}, {2, []byte{nop}, []byte{rst7}, "...i............", "1234123456123123", next(0x38)},
		{1, []byte{nop}, []byte{call, 0x34, 0x12}, "...i.................", "123412345123123123123", next(0x1234)},
		{2, []byte{nop}, []byte{call, 0x34, 0x12}, "...i..................", "1234123456123123123123", next(0x1234)},
		{1, []byte{nop}, []byte{nop}, "...i....", "12341234", next(1)}, {1, []byte{nop}, []byte{ei, nop}, "...iiiii....", "123412341234", next(2)},
		{1, []byte{nop}, []byte{mvi, 7}, "...i.w..w.w..", "123412w3412w3", next(1)}, {2, []byte{nop}, []byte{mvi, 7}, "...i.h......", "12341234h123", next(1)},
		{1, []byte{nop}, []byte{hlt}, "...i........", "12341234123z", halted(1)}, {2, []byte{nop}, []byte{hlt}, "...i......", "123412345z", halted(1)},
		{1, []byte{nop}, nil, ".h.i.", "1234h", served(5, 1)}, {1, []byte{nop}, nil, ".h..ii", "1234h1", outcome{0, api.T2, api.CycFetch, 1}},
		{1, []byte{nop}, nil, "...i....", "12341234", next(1)}, {1, []byte{nop}, nil, "...iii", "123412", outcome{5, api.T3, api.CycAck, 1}},
	} {
		play(t, s, enabled)
	}
	x := play(t, scene{1, []byte{nop}, []byte{call, 0x34, 0x12}, "...i.................", "123412345123123123123", next(0x1234)}, enabled)
	if x.core.CPU.IE || x.core.CPU.Regs.SP != 0x7FFE || x.bytes[0x7FFF] != 0 || x.bytes[0x7FFE] != 1 {
		t.Errorf("an injected call leads to %+v and pushes %#02x%02x", x.core, x.bytes[0x7FFF], x.bytes[0x7FFE])
	}
}

// P20.2: internal restarts of the 8085: the priorities, the masks, and the latches up to the last state.
func TestInternalRestarts(t *testing.T) {
	masked := func(mask byte) func(c *api.CPU) { return func(c *api.CPU) { c.IE, c.Mask = true, mask } }
	for _, x := range []struct {
		levels, states string
		after          outcome
		change         func(c *api.CPU)
	}{
		{"...a", "1234", served(1, 1), enabled}, {"...t", "1234", served(1, 1), enabled}, {"...7", "1234", served(2, 1), enabled},
		{"...6", "1234", served(3, 1), enabled}, {"...5", "1234", served(4, 1), enabled}, {"...i", "1234", served(5, 1), enabled},
		{"t...", "1234", next(1), enabled}, {".tt.", "1234", next(1), enabled}, {"tttt", "1234", served(1, 1), enabled}, {"..tt", "1234", served(1, 1), nil},
		{"7...", "1234", served(2, 1), enabled}, {".7..", "1234", served(2, 1), enabled}, {"7776", "1234", served(2, 1), enabled}, {"7..t", "1234", served(1, 1), enabled},
		{"666.", "1234", next(1), enabled}, {"555.", "1234", next(1), enabled}, {"...7", "1234", next(1), nil}, {"...6", "1234", next(1), nil},
		{"...7", "1234", next(1), masked(4)}, {"...7", "1234", served(2, 1), masked(3)}, {"...6", "1234", next(1), masked(2)}, {"...6", "1234", served(3, 1), masked(5)},
		{"...5", "1234", next(1), masked(1)}, {"...5", "1234", served(4, 1), masked(6)}, {"...a", "1234", served(1, 1), masked(7)}, {"...i", "1234", served(5, 1), masked(7)},
		{"...t............", "1234123456123123", next(0x24), enabled}, {"...7............", "1234123456123123", next(0x3C), enabled},
		{"...6............", "1234123456123123", next(0x34), enabled}, {"...5............", "1234123456123123", next(0x2C), enabled},
		{"...tttttttttttttttt.", "12341234561231231234", next(0x25), enabled}, {"...7777777777777777.", "12341234561231231234", next(0x3D), enabled},
		{"...7............t", "12341234561231231", outcome{0, api.T2, api.CycFetch, 0x3C}, enabled}, {"...7...........t", "1234123456123123", served(1, 0x3C), enabled},
		{"...6......7....5", "1234123456123123", next(0x34), enabled},
		{"...7.wwwww", "1234123456", outcome{2, api.T1, api.CycPush, 1}, enabled}, {"...7.h.......", "1234123456h12", outcome{2, api.T3, api.CycPush, 1}, enabled},
		{".h.7.", "1234h", served(2, 1), enabled}, {".h..7....", "1234h1234", served(2, 2), enabled}, {".h..6....", "1234h1234", next(2), enabled},
	} {
		play(t, scene{2, []byte{nop}, nil, x.levels, x.states, x.after}, x.change)
	}
	// The 8080 has none of these lines.
	play(t, scene{1, []byte{nop}, nil, "t7657...765t", "123412341234", next(3)}, enabled)
	play(t, scene{1, []byte{nop}, nil, "...a", "1234", served(5, 1)}, enabled)
}

// P20.2: what a service does with the latches and with IE.
func TestAcceptedRequests(t *testing.T) {
	x := play(t, scene{2, []byte{nop}, nil, "...t", "1234", served(1, 1)}, enabled)
	if c := x.core.CPU; c.Trap || !c.WasTrap || !c.Saved || !c.SavedIE || c.IE {
		t.Errorf("TRAP leads to %+v", c)
	}
	x = play(t, scene{2, []byte{nop}, nil, "...7", "1234", served(2, 1)}, enabled)
	if c := x.core.CPU; c.R75 || !c.Was75 || c.Saved || c.IE {
		t.Errorf("RST 7.5 leads to %+v", c)
	}
	x = play(t, scene{2, []byte{nop}, nil, "7..t...........", "123412345612312", outcome{1, api.T3, api.CycPush, 1}}, enabled)
	if c := x.core.CPU; !c.R75 || c.Was75 || c.IE {
		t.Errorf("TRAP before RST 7.5 leads to %+v", c)
	}
	x = play(t, scene{2, []byte{nop}, nil, "...6............", "1234123456123123", next(0x34)}, enabled)
	if c := x.core.CPU; c.Regs.SP != 0x7FFE || x.bytes[0x7FFF] != 0 || x.bytes[0x7FFE] != 1 || c.Saved || c.IE {
		t.Errorf("RST 6.5 leads to %+v", c)
	}
}

// P20.2: RIM reads the lines and the latches of its last state.
func TestLinesOfRim(t *testing.T) {
	for levels, a := range map[string]byte{"....": 0x07, "sss.": 0x07, "...s": 0x87, "...7": 0x47, "7...": 0x47, "...6": 0x27, "666.": 0x07, "...5": 0x17} {
		x := play(t, scene{2, []byte{rim}, nil, levels, "1234", next(1)}, nil)
		if x.core.CPU.Regs.A != a {
			t.Errorf("RIM with the levels %s loads %#02x, want %#02x", levels, x.core.CPU.Regs.A, a)
		}
	}
}

// P20.2: the service ends halt states, with hold states before it if HOLD is high; interrupts in hold states wait.
func TestInterruptsInHaltStates(t *testing.T) {
	for _, s := range []scene{
		{1, []byte{hlt}, nil, "..........i", "1234123zzzz", served(5, 1)}, {1, []byte{hlt}, nil, "......i", "1234123", served(5, 1)},
		{1, []byte{hlt}, nil, "iiiiii.....", "1234123zzzz", halted(1)},
		{1, []byte{hlt}, []byte{rst7}, ".......i...........", "1234123z12345123123", next(0x38)},
		{1, []byte{hlt}, nil, ".......I", "1234123z", outcome{5, api.THold, api.CycAck, 1}}, {1, []byte{hlt}, nil, ".......Ih.", "1234123zhh", served(5, 1)},
		{1, []byte{hlt}, nil, ".......hii", "1234123zhz", served(5, 1)}, {1, []byte{hlt}, nil, ".......hi.", "1234123zhz", halted(1)},
		{1, []byte{hlt}, nil, ".......hI.", "1234123zhh", halted(1)}, {1, []byte{hlt}, nil, ".....h.i", "1234123h", halted(1)}, {1, []byte{hlt}, nil, ".....hi.", "1234123h", served(5, 1)},
		{2, []byte{hlt}, nil, ".....t", "12345z", served(1, 1)}, {2, []byte{hlt}, nil, ".....T.", "12345zh", served(1, 1)}, {2, []byte{hlt}, nil, "....t", "12345", served(1, 1)},
		{2, []byte{hlt}, nil, ".....7", "12345z", served(2, 1)}, {2, []byte{hlt}, nil, ".....6", "12345z", served(3, 1)}, {2, []byte{hlt}, nil, ".....5", "12345z", served(4, 1)},
		{2, []byte{hlt}, nil, ".....h7.", "12345zhz", served(2, 1)}, {2, []byte{hlt}, nil, ".....h6..", "12345zhzz", halted(1)}, {2, []byte{hlt}, nil, ".....ht..", "12345zhzz", halted(1)},
		{2, []byte{hlt}, nil, ".....htt", "12345zhz", served(1, 1)}, {2, []byte{hlt}, nil, ".....5............", "12345z123456123123", next(0x2C)},
		{1, []byte{hlt}, nil, ".......t765", "1234123zzzz", halted(1)},
	} {
		x := play(t, s, enabled)
		if c := x.core.CPU; c.Halted != (s.after == halted(1)) {
			t.Errorf("the levels %s lead to %+v", s.levels, c)
		}
	}
	// Without IE only TRAP ends the halt states.
	play(t, scene{2, []byte{hlt}, nil, ".....765i..", "12345zzzzzz", halted(1)}, func(c *api.CPU) { c.Mask = 0 })
	play(t, scene{2, []byte{hlt}, nil, ".....765i.t", "12345zzzzzz", served(1, 1)}, nil)
	play(t, scene{1, []byte{hlt}, nil, ".......iiii", "1234123zzzz", halted(1)}, nil)
}

// P20.2: RESET cuts off whatever is under way, and hides READY, HOLD and the interrupts.
func TestResetsInScenes(t *testing.T) {
	for _, s := range []scene{
		{1, []byte{mvi, 5}, nil, "....rr..", "1234rr12", outcome{0, api.T3, api.CycFetch, 0}}, {2, []byte{mvi, 5}, nil, ".....r.......", "12341r1234123", next(2)},
		{1, []byte{nop, mvi, 5}, nil, "......r", "123412r", next(0)}, {2, []byte{nop}, nil, ".w.r....", "12wr1234", next(1)},
		{1, []byte{nop}, nil, ".h..r", "1234r", next(0)}, {1, []byte{nop}, nil, ".h..hr.", "1234hr1", outcome{0, api.T2, api.CycFetch, 0}}, {2, []byte{nop}, nil, ".hr....", "12r1234", next(1)},
		{1, []byte{hlt}, nil, "........r", "1234123zr", next(0)}, {2, []byte{hlt}, nil, ".......r......", "12345zzr12345z", halted(1)},
		{1, []byte{nop}, nil, "...i..r", "123412r", next(0)}, {2, []byte{nop}, nil, "...t..r....", "123412r1234", next(1)}, {2, []byte{nop}, nil, "7..r....", "123r1234", next(1)},
		{1, []byte{nop}, nil, "rrr....", "rrr1234", next(1)},
	} {
		x := play(t, s, enabled)
		want := core.New(s.chip).CPU
		if c := x.core.CPU; c.IE != want.IE || c.Mask != want.Mask || c.R75 || c.Trap || c.Regs.SP != 0x8000 {
			t.Errorf("the levels %s lead to %+v", s.levels, c)
		}
	}
}

// P20.2: the bytes of the completed cycles and the current cycle, after each cycle of a call.
func TestBytesOfAnInstruction(t *testing.T) {
	got := []byte{call, 0x34, 0x12, 0x00, 0x03}
	for _, chip := range both {
		first, last := "12345", 17
		if chip == api.Chip8085 {
			first, last = "123456", 18
		}
		x := play(t, scene{chip, got, nil, "......"[:len(first)], first, outcome{0, api.T1, api.CycRead, 0}}, nil)
		for n, want := range []api.Cycle{
			{Kind: api.CycRead, At: 1, States: 3}, {Kind: api.CycRead, At: 2, States: 3},
			{Kind: api.CycPush, At: 0x7FFF, Data: 0x00, States: 3}, {Kind: api.CycPush, At: 0x7FFE, Data: 0x03, States: 3},
		} {
			if c := x.core; c.Cycle != want || !slices.Equal(c.Got, got[:n+1]) || c.CPU.Regs.PC != 0 || !core.Busy(c) {
				t.Errorf("after %s the core is %+v, want the cycle %+v and the bytes % x", x.states, c, want, got[:n+1])
			}
			for range 3 {
				x.clock(t, levels('.'))
			}
		}
		if c := x.core; len(x.states) != last || len(c.Got) != 0 || core.Busy(c) || c.CPU.Regs.PC != 0x1234 || c.CPU.Regs.SP != 0x7FFE {
			t.Errorf("a call ends after %s with %+v", x.states, c)
		}
	}
}

package boundary_test

import (
	"slices"
	"strings"
	"testing"

	"tstate/api"
	"tstate/boundary"
	"tstate/cond"
	"tstate/cycles"
	"tstate/isa"
	"tstate/opcode"
	"tstate/regions"
	"tstate/status"
)

// withCycles are the kinds of events that have machine cycles.
var withCycles = []int{api.EvInstr, api.EvInject, api.EvInternal, api.EvCut, api.EvOpen}

// P27.2: instructions of all forms, spelled out. The bytes of got that were written are 0xEE, and do not matter.
func TestCyclesOfInstructions(t *testing.T) {
	for _, x := range []struct {
		chip int
		text string
		got  []byte // the bytes of the cycles after the operands, which follow from the text
		want string
	}{
		{1, "nop", nil, "fetch@0100=00/4"},
		{2, "nop", nil, "fetch@0100=00/4"},
		{1, "mov a,b", nil, "fetch@0100=78/5"},
		{2, "mov a,b", nil, "fetch@0100=78/4"},
		{1, "mov a,m", []byte{0x77}, "fetch@0100=7e/4 read@3056=77/3"},
		{1, "mov m,a", []byte{0xEE}, "fetch@0100=77/4 write@3056=a1/3"},
		{1, "mvi a,0x05", nil, "fetch@0100=3e/4 read@0101=05/3"},
		{1, "mvi m,0x05", []byte{0xEE}, "fetch@0100=36/4 read@0101=05/3 write@3056=05/3"},
		{1, "lxi h,0x1234", nil, "fetch@0100=21/4 read@0101=34/3 read@0102=12/3"},
		{1, "lda 0x1234", []byte{0x77}, "fetch@0100=3a/4 read@0101=34/3 read@0102=12/3 read@1234=77/3"},
		{1, "sta 0x1234", []byte{0xEE}, "fetch@0100=32/4 read@0101=34/3 read@0102=12/3 write@1234=a1/3"},
		{1, "lhld 0xffff", []byte{7, 8}, "fetch@0100=2a/4 read@0101=ff/3 read@0102=ff/3 read@ffff=07/3 read@0000=08/3"},
		{1, "shld 0x1234", []byte{0xEE, 0xEE}, "fetch@0100=22/4 read@0101=34/3 read@0102=12/3 write@1234=56/3 write@1235=30/3"},
		{1, "ldax b", []byte{7}, "fetch@0100=0a/4 read@1234=07/3"},
		{1, "stax d", []byte{0xEE}, "fetch@0100=12/4 write@1dff=a1/3"},
		{1, "inr m", []byte{7, 0xEE}, "fetch@0100=34/4 read@3056=07/3 write@3056=08/3"},
		{1, "inr a", nil, "fetch@0100=3c/5"},
		{2, "inr a", nil, "fetch@0100=3c/4"},
		{2, "inx h", nil, "fetch@0100=23/6"},
		{1, "dad b", []byte{0xEE, 0xEE}, "fetch@0100=09/4 idle@0100=00/3 idle@0100=00/3"},
		{1, "jz 0x1234", nil, "fetch@0100=ca/4 read@0101=34/3 read@0102=12/3"},
		{2, "jz 0x1234", nil, "fetch@0100=ca/4 read@0101=34/3"},
		{1, "call 0x1234", []byte{0xEE, 0xEE}, "fetch@0100=cd/5 read@0101=34/3 read@0102=12/3 push@6fff=01/3 push@6ffe=03/3"},
		{2, "call 0x1234", []byte{0xEE, 0xEE}, "fetch@0100=cd/6 read@0101=34/3 read@0102=12/3 push@6fff=01/3 push@6ffe=03/3"},
		{1, "ret", []byte{7, 8}, "fetch@0100=c9/4 pop@7000=07/3 pop@7001=08/3"},
		{1, "rz", []byte{7, 8}, "fetch@0100=c8/5"},
		{2, "rz", []byte{7, 8}, "fetch@0100=c8/6"},
		{1, "rst 7", []byte{0xEE, 0xEE}, "fetch@0100=ff/5 push@6fff=01/3 push@6ffe=01/3"},
		{1, "push d", []byte{0xEE, 0xEE}, "fetch@0100=d5/5 push@6fff=1d/3 push@6ffe=ff/3"},
		{1, "push psw", []byte{0xEE, 0xEE}, "fetch@0100=f5/5 push@6fff=a1/3 push@6ffe=02/3"},
		{2, "push psw", []byte{0xEE, 0xEE}, "fetch@0100=f5/6 push@6fff=a1/3 push@6ffe=00/3"},
		{1, "xthl", []byte{7, 8, 0xEE, 0xEE}, "fetch@0100=e3/4 pop@7000=07/3 pop@7001=08/3 push@7001=30/3 push@7000=56/5"},
		{2, "xthl", []byte{7, 8, 0xEE, 0xEE}, "fetch@0100=e3/4 pop@7000=07/3 pop@7001=08/3 push@7001=30/3 push@7000=56/3"},
		{1, "in 0x42", []byte{7}, "fetch@0100=db/4 read@0101=42/3 in@4242=07/3"},
		{1, "out 0x42", []byte{0xEE}, "fetch@0100=d3/4 read@0101=42/3 out@4242=a1/3"},
		{1, "hlt", []byte{0xEE}, "fetch@0100=76/4 halt@0100=00/3"},
		{2, "hlt", []byte{0xEE}, "fetch@0100=76/5"},
		{2, "arhl", []byte{0xEE}, "fetch@0100=10/4 idle@0100=00/3"},
		{2, "ldhi 0x05", []byte{0xEE}, "fetch@0100=28/4 read@0101=05/3 idle@0100=00/3"},
		{2, "shlx", []byte{0xEE, 0xEE}, "fetch@0100=d9/4 write@1dff=56/3 write@1e00=30/3"},
		{2, "lhlx", []byte{7, 8}, "fetch@0100=ed/4 read@1dff=07/3 read@1e00=08/3"},
	} {
		got := append(assemble(t, x.chip, x.text), x.got...)
		if text := cycleTexts(boundary.Cycles(example(x.chip), event(api.EvInstr, 0, got...))); text != x.want {
			t.Errorf("the cycles of %s on the chip %d are %s, want %s", x.text, x.chip, text, x.want)
		}
	}
}

// P27.2: injected instructions and internal restarts, spelled out.
func TestCyclesOfInterrupts(t *testing.T) {
	for _, x := range []struct {
		chip, kind, source int
		got                []byte
		want               string
	}{
		{1, api.EvInject, api.FromIntr, []byte{0xCD, 0x34, 0x12, 0xEE, 0xEE}, "ack@0100=cd/5 more@0100=34/3 more@0100=12/3 push@6fff=01/3 push@6ffe=00/3"},
		{2, api.EvInject, api.FromIntr, []byte{0xCD, 0x34, 0x12, 0xEE, 0xEE}, "ack@0100=cd/6 more@0100=34/3 more@0100=12/3 push@6fff=01/3 push@6ffe=00/3"},
		{1, api.EvInject, api.FromIntr, []byte{0xFF, 0xEE, 0xEE}, "ack@0100=ff/5 push@6fff=01/3 push@6ffe=00/3"},
		{1, api.EvInject, api.FromIntr, []byte{0x7E, 7}, "ack@0100=7e/4 read@3056=07/3"},
		{2, api.EvInternal, api.FromTrap, []byte{0xEE, 0xEE, 0xEE}, "rst@0100=00/6 push@6fff=01/3 push@6ffe=00/3"},
		{2, api.EvInternal, api.From75, []byte{0xEE, 0xEE, 0xEE}, "rst@0100=00/6 push@6fff=01/3 push@6ffe=00/3"},
		{2, api.EvInternal, api.From65, []byte{0xCD, 0xEE, 0xEE, 0xEE, 0xEE}, "rst@0100=00/6 push@6fff=01/3 push@6ffe=00/3"},
		{1, api.EvInternal, api.From55, []byte{0xCD, 0xEE, 0xEE}, "rst@0100=00/6 push@6fff=01/3 push@6ffe=00/3"},
		{2, api.EvCut, api.FromTrap, []byte{0xEE, 0xEE}, "rst@0100=00/6 push@6fff=01/3"},
		{2, api.EvOpen, api.FromIntr, []byte{0xCD, 0x34}, "ack@0100=cd/6 more@0100=34/3"},
		{2, api.EvInstr, api.FromIntr, []byte{0x3E, 5}, "ack@0100=3e/4 more@0100=05/3"},
		{2, api.EvInject, api.FromNone, []byte{0x3E, 5}, "fetch@0100=3e/4 read@0101=05/3"},
		{2, api.EvInternal, 6, []byte{0x3E, 5}, "fetch@0100=3e/4 read@0101=05/3"},
	} {
		if text := cycleTexts(boundary.Cycles(example(x.chip), event(x.kind, x.source, x.got...))); text != x.want {
			t.Errorf("the cycles of % x with the source %d on the chip %d are %s, want %s", x.got, x.source, x.chip, text, x.want)
		}
	}
}

// P27.2: one cycle for each byte, as long as there are cycles, for the five kinds, and none for the others.
func TestCyclesForEachByte(t *testing.T) {
	all := []byte{0x22, 0x34, 0x12, 0xEE, 0xEE, 1, 2, 3}
	whole := strings.Fields("fetch@0100=22/4 read@0101=34/3 read@0102=12/3 write@1234=56/3 write@1235=30/3")
	for n := range len(all) + 1 {
		for _, kind := range eventKinds {
			want := ""
			if slices.Contains(withCycles, kind) {
				want = strings.Join(whole[:min(n, len(whole))], " ")
			}
			if got := cycleTexts(boundary.Cycles(example(api.Chip8080), event(kind, 0, all[:n]...))); got != want {
				t.Errorf("an event of the kind %d has the cycles %s of % x, want %s", kind, got, all[:n], want)
			}
		}
	}
}

// P27.2 and R1: all opcodes on all chips, with all kinds and sources, and any other fields.
func TestCyclesOfAnyEvents(t *testing.T) {
	m := newMaker()
	check := func(c api.CPU, e api.Event) {
		t.Helper()
		if got, want := boundary.Cycles(c, e), cyclesOf(c, e); !slices.Equal(got, want) {
			t.Fatalf("Cycles(%+v, %+v) = %+v, want %+v", c, e, got, want)
		}
	}
	for _, chip := range chips {
		for op := range 256 {
			for _, source := range sources {
				e := m.event()
				e.Kind, e.Source, e.Bytes = m.one(withCycles), source, append([]byte{byte(op)}, m.bytes(m.IntN(7))...)
				check(m.cpu(chip), e)
			}
		}
	}
	for range 20000 {
		check(m.cpu(m.one(chips)), m.event())
	}
}

// P27.2: the cycles of a whole instruction have the published kinds and states, and those that read memory have read it.
func TestCyclesAreThePublishedOnes(t *testing.T) {
	m := newMaker()
	everywhere := []api.Region{{To: 0xFFFF, RAM: true}}
	for _, chip := range both {
		for op := range 256 {
			for range 8 {
				c := m.cpu(chip)
				cells := append(m.cells(), api.Cell{At: c.Regs.PC, Val: byte(op)})
				_, _, _, got := isa.Step(c, everywhere, cells, api.FromNone, m.bytes(1), api.Lines{})
				l, states := boundary.Cycles(c, event(api.EvInstr, 0, got...)), 0
				taken := cond.Holds(opcode.Decode(chip, byte(op)).Cond, c.Regs.F)
				for i, x := range l {
					states += x.States
					if readsMemory(x.Kind) && !overwritten(l[:i], x.At) && x.Data != regions.Read(everywhere, cells, x.At) {
						t.Fatalf("%+v of the opcode %#02x does not read what is there", x, op)
					}
					if data := status.Reads(x.Kind) || status.Writes(x.Kind); data && x.Data != got[i] || !data && x.Data != 0 {
						t.Fatalf("%+v of the opcode %#02x has a byte other than that of % x", x, op, got)
					}
				}
				same := slices.EqualFunc(l, cycles.Kinds(chip, byte(op), taken), func(a, b api.Cycle) bool { return a.Kind == b.Kind && a.States == b.States })
				if !same || states != cycles.Total(chip, byte(op), taken) {
					t.Fatalf("the opcode %#02x on the chip %d has the cycles %s", op, chip, cycleTexts(l))
				}
			}
		}
	}
}

func readsMemory(kind int) bool {
	return kind == api.CycFetch || kind == api.CycRead || kind == api.CycPop
}

// overwritten reports whether one of the cycles has written at an address.
func overwritten(l []api.Cycle, at uint16) bool {
	return slices.ContainsFunc(l, func(x api.Cycle) bool { return status.Writes(x.Kind) && x.At == at })
}

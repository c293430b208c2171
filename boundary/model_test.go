package boundary_test

import (
	"fmt"
	"slices"
	"strings"
	"testing"

	"tstate/api"
	"tstate/irq"
	"tstate/listing"
	"tstate/micro"
)

// followed is a model of After: the sentences of P27.1, one after another.
func followed(c api.CPU, e api.Event) api.CPU {
	if e.Kind == 4 {
		return irq.Reset(c)
	}
	if e.Kind < 1 || e.Kind > 3 {
		return c
	}
	begun := irq.Accept(c, e.Source)
	begun.R75 = e.R75
	begun.Trap = e.Trap
	begun.Was75 = e.Was75
	begun.WasTrap = e.WasTrap
	return micro.Finish(begun, e.Source, slices.Clone(e.Bytes), e.Lines)
}

// cyclesOf is a model of Cycles: the sentences of P27.2, one after another.
func cyclesOf(c api.CPU, e api.Event) (l []api.Cycle) {
	if e.Kind < 1 || e.Kind > 7 || e.Kind == 4 || e.Kind == 5 {
		return nil
	}
	begun, got := irq.Accept(c, e.Source), slices.Clone(e.Bytes)
	for len(l) < len(got) {
		x, more := micro.Next(begun, e.Source, got[:len(l)])
		if !more {
			break
		}
		switch x.Kind {
		case 1, 2, 4, 6, 8, 9:
			x.Data = got[len(l)]
		}
		if len(l) == 0 && (x.Kind == 1 || x.Kind == 8) {
			x.States = micro.First(c.Chip, got[0])
		}
		l = append(l, x)
	}
	return l
}

// replayed is a model of Replay.
func replayed(c api.CPU, l []api.Event) (out []api.CPU) {
	for _, e := range l {
		c = followed(c, e)
		out = append(out, c)
	}
	return out
}

// remaining is a model of Memory, with an array of the bytes of all addresses.
func remaining(c api.CPU, areas []api.Region, m []api.Cell, l []api.Event) (out []api.Cell) {
	var bytes [1 << 16]byte
	for _, x := range m {
		bytes[x.At] = x.Val
	}
	put := func(at uint16, v byte) {
		i := slices.IndexFunc(areas, func(r api.Region) bool { return at >= r.From && at <= r.To })
		if i >= 0 && areas[i].RAM {
			bytes[at] = v
		}
	}
	for i, e := range l {
		if e.Kind == 5 {
			put(e.Cell.At, e.Cell.Val)
		}
		before := c
		if i > 0 {
			before = replayed(c, l[:i])[i-1]
		}
		for _, x := range cyclesOf(before, e) {
			if x.Kind == 3 || x.Kind == 5 {
				put(x.At, x.Data)
			}
		}
	}
	for at, v := range bytes {
		if v != 0 {
			out = append(out, api.Cell{At: uint16(at), Val: v})
		}
	}
	return out
}

// assemble returns the bytes of instructions that are written as texts, with semicolons between them.
func assemble(t *testing.T, chip int, text string) (code []byte) {
	t.Helper()
	for line := range strings.SplitSeq(text, "; ") {
		b, errno := listing.Parse(chip, line)
		if errno != api.OK {
			t.Fatalf("%q is no instruction of the chip %d", line, chip)
		}
		code = append(code, b...)
	}
	return code
}

// event returns an event without levels and latches.
func event(kind, source int, b ...byte) api.Event {
	return api.Event{Kind: kind, Source: source, Bytes: b}
}

// stored returns an event of a byte that the DMA master wrote.
func stored(at uint16, v byte) api.Event {
	return api.Event{Kind: api.EvDma, Cell: api.Cell{At: at, Val: v}}
}

// example returns a state in which all registers differ. HL points to 0x3056, DE to 0x1DFF.
func example(chip int) api.CPU {
	return api.CPU{
		Chip: chip, Regs: api.Regs{A: 0xA1, B: 0x12, C: 0x34, D: 0x1D, E: 0xFF, H: 0x30, L: 0x56, SP: 0x7000, PC: 0x0100},
		IE: true, Mask: 5,
	}
}

// cycleTexts returns the machine cycles as a text: the kind, the address, the byte and the number of states of each one.
func cycleTexts(l []api.Cycle) string {
	names := strings.Fields("? fetch read write pop push in out ack more halt idle rst")
	var out []string
	for _, x := range l {
		out = append(out, fmt.Sprintf("%s@%04x=%02x/%d", names[x.Kind], x.At, x.Data, x.States))
	}
	return strings.Join(out, " ")
}

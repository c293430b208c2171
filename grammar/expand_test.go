package grammar_test

import (
	"slices"
	"strings"
	"testing"

	"tstate/api"
	"tstate/core"
	"tstate/grammar"
)

// cycle returns a machine cycle.
func cycle(kind, states, n, waits int) api.Item {
	return api.Item{Kind: api.ItemCycle, Cycle: api.Cycle{Kind: kind, At: 0x1234, Data: 0x56, States: states}, N: n, Waits: waits}
}

// other returns an item of another kind.
func other(kind, n int) api.Item { return api.Item{Kind: kind, N: n} }

// lit returns an item with IE and SOD.
func lit(x api.Item, inte, sod bool) api.Item {
	x.Inte, x.Sod = inte, sod
	return x
}

// within returns the number in a range that is nearest to n.
func within(n, low, high int) int {
	if n < low {
		return low
	}
	if n > high {
		return high
	}
	return n
}

// expanded is a model of Expand that has a processor in each state of the items.
func expanded(chip int, l []api.Item) (trace []api.Pins) {
	for _, x := range l {
		add := func(state, n int) {
			c := api.Core{CPU: api.CPU{Chip: chip, IE: x.Inte, SOD: x.Sod}, Cycle: x.Cycle, Next: state}
			c.CPU.Regs.PC = x.Cycle.At
			_, pins := core.Clock(c, api.Lines{Reset: state == api.TReset}, x.Cycle.Data)
			trace = append(trace, slices.Repeat([]api.Pins{pins}, within(n, 0, 65536))...)
		}
		switch x.Kind {
		case 1:
			for state := 1; state <= within(x.N, 1, within(x.Cycle.States, 3, 6)); state++ {
				add(state, 1)
				if state == 2 {
					add(7, x.Waits)
				}
			}
		case 2, 3, 4:
			add([]int{8, 9, 10}[x.Kind-2], x.N)
		}
	}
	return trace
}

// checkExpand compares the expansion of items with the model.
func checkExpand(t *testing.T, chip int, l ...api.Item) {
	t.Helper()
	got, want := grammar.Expand(chip, l), expanded(chip, l)
	if len(got) != len(want) {
		t.Fatalf("Expand(%d, %+v) has %d states, want %d", chip, l, len(got), len(want))
	}
	for i := range got {
		if got[i] != want[i] {
			t.Fatalf("Expand(%d, %+v) has the pins %+v in the state %d, want %+v", chip, l, got[i], i, want[i])
		}
	}
}

// P26.1: machine cycles of all kinds and numbers of states on all chips.
func TestExpandOfCycles(t *testing.T) {
	m := newMaker()
	for _, chip := range chips {
		for _, kind := range cycleKinds {
			for _, states := range odd {
				for _, n := range odd {
					x := cycle(kind, states, n, m.one(odd))
					x.Cycle.At, x.Cycle.Data = m.word(), m.byte()
					checkExpand(t, chip, lit(x, m.bool(), m.bool()))
				}
			}
		}
	}
}

// P26.1: items of all kinds and numbers that are no kinds. Fields that a kind does not name do not matter.
func TestExpandOfItems(t *testing.T) {
	m := newMaker()
	for _, chip := range chips {
		for _, kind := range itemKinds {
			for _, n := range odd {
				for range 8 {
					x := m.item()
					x.Kind, x.N = kind, n
					checkExpand(t, chip, x)
				}
			}
		}
	}
}

// P26.1 and R1: any lists of items.
func TestExpandOfLists(t *testing.T) {
	m := newMaker()
	for range 5000 {
		checkExpand(t, m.one(chips), m.items(12)...)
	}
}

// P26.1: at most 65536 states of an item, and at most as many wait states.
func TestExpandOfManyStates(t *testing.T) {
	for _, chip := range both {
		for _, n := range huge {
			want := 65536
			if n == 65535 {
				want = 65535
			}
			for _, x := range []api.Item{other(api.ItemHold, n), other(api.ItemHalt, n), other(api.ItemReset, n), cycle(api.CycPush, 3, 2, n), cycle(api.CycFetch, 6, n, n)} {
				checkExpand(t, chip, cycle(api.CycFetch, 4, 4, 1), x, other(api.ItemHold, 2))
				states := want
				if x.Kind == api.ItemCycle {
					states += within(x.N, 2, 6)
				}
				if got := len(grammar.Expand(chip, []api.Item{x})); got != states {
					t.Errorf("%+v has %d states, want %d", x, got, states)
				}
			}
			if got := len(grammar.Expand(chip, []api.Item{cycle(api.CycFetch, n, 6, 0)})); got != 6 {
				t.Errorf("a machine cycle of %d states has %d", n, got)
			}
		}
	}
}

// tracedStates returns a letter for each state of a trace: its number, w for TWait, h for THold, z for THalt, r for TReset.
func tracedStates(l []api.Pins) (out string) {
	for _, p := range l {
		out += string("?123456whzr"[p.State])
	}
	return out
}

// P26.1: the states of items, spelled out.
func TestStatesOfItems(t *testing.T) {
	for _, x := range []struct {
		l    []api.Item
		want string
	}{
		{nil, ""},
		{[]api.Item{}, ""},
		{[]api.Item{cycle(api.CycFetch, 4, 4, 1)}, "12w34"},
		{[]api.Item{cycle(api.CycFetch, 4, 4, 0)}, "1234"},
		{[]api.Item{cycle(api.CycFetch, 4, 4, 3)}, "12www34"},
		{[]api.Item{cycle(api.CycFetch, 4, 4, -1)}, "1234"},
		{[]api.Item{cycle(api.CycFetch, 4, 3, 1)}, "12w3"},
		{[]api.Item{cycle(api.CycFetch, 4, 2, 2)}, "12ww"},
		{[]api.Item{cycle(api.CycFetch, 4, 2, 0)}, "12"},
		{[]api.Item{cycle(api.CycFetch, 4, 1, 5)}, "1"},
		{[]api.Item{cycle(api.CycFetch, 4, 0, 5)}, "1"},
		{[]api.Item{cycle(api.CycFetch, 4, -7, 5)}, "1"},
		{[]api.Item{cycle(api.CycFetch, 4, 5, 0)}, "1234"},
		{[]api.Item{cycle(api.CycFetch, 5, 99, 0)}, "12345"},
		{[]api.Item{cycle(api.CycFetch, 6, 6, 1)}, "12w3456"},
		{[]api.Item{cycle(api.CycFetch, 7, 7, 0)}, "123456"},
		{[]api.Item{cycle(api.CycFetch, 7, 5, 0)}, "12345"},
		{[]api.Item{cycle(api.CycFetch, 2, 9, 1)}, "12w3"},
		{[]api.Item{cycle(api.CycFetch, 0, 2, 0)}, "12"},
		{[]api.Item{cycle(api.CycFetch, -4, 4, 0)}, "123"},
		{[]api.Item{cycle(api.CycIdle, 3, 3, 2)}, "12ww3"}, // wait states where no run has them
		{[]api.Item{cycle(99, 3, 3, 1)}, "12w3"},
		{[]api.Item{other(api.ItemHold, 2), other(api.ItemHalt, 3), other(api.ItemReset, 1)}, "hhzzzr"},
		{[]api.Item{other(api.ItemHold, 1), other(api.ItemHold, 1)}, "hh"},
		{[]api.Item{other(api.ItemHold, 0), other(api.ItemHalt, -1), other(api.ItemReset, -65537)}, ""},
		{[]api.Item{{Kind: api.ItemHold, N: 1, Waits: 4}, {Kind: api.ItemHalt, N: 1, Waits: 4}, {Kind: api.ItemReset, N: 1, Waits: 4}}, "hzr"},
		{[]api.Item{cycle(api.CycRead, 3, 3, 0), {Kind: 0, N: 3, Waits: 1}, {Kind: 5, N: 3}, {Kind: -1, N: 3}, cycle(api.CycRead, 3, 1, 0)}, "1231"},
	} {
		for _, chip := range chips {
			if got := tracedStates(grammar.Expand(chip, x.l)); got != x.want {
				t.Errorf("on the chip %d, %+v has the states %q, want %q", chip, x.l, got, x.want)
			}
		}
	}
}

// pinText returns the pins of a state as a text: the state, Addr, Data, and the names of the pins that are true.
func pinText(p api.Pins) string {
	const digits = "0123456789abcdef"
	out := tracedStates([]api.Pins{p}) + " "
	for _, n := range []uint16{p.Addr >> 12, p.Addr >> 8, p.Addr >> 4, p.Addr} {
		out += string(digits[n&15])
	}
	out += " " + string(digits[p.Data>>4]) + string(digits[p.Data&15])
	for _, f := range []struct {
		set  bool
		name string
	}{
		{p.Sync, "sync"}, {p.Dbin, "dbin"}, {p.Wait, "wait"}, {p.Inte, "inte"}, {p.Ale, "ale"}, {p.IOM, "iom"}, {p.S1, "s1"}, {p.S0, "s0"},
		{p.Rd, "rd"}, {p.Inta, "inta"}, {p.Sod, "sod"}, {p.Wr, "wr"}, {p.Hlda, "hlda"}, {p.Float, "float"},
	} {
		if f.set {
			out += " " + f.name
		}
	}
	return out
}

// P26.1: the pins of items, spelled out, with a comma after each state. The machine cycles are at 0x1234 and have the byte
// 0x56, and so have the other items, where neither matters but for the address of halt states.
func TestPinsOfItems(t *testing.T) {
	halt := api.Item{Kind: api.ItemHalt, N: 2, Cycle: cycle(api.CycRead, 3, 0, 0).Cycle}
	hold, reset := halt, halt
	hold.Kind, reset.Kind = api.ItemHold, api.ItemReset
	for _, x := range []struct {
		item  api.Item
		early string // on the 8080
		later string // on the 8085
	}{
		{cycle(api.CycFetch, 6, 6, 1), "1 1234 a2 sync,2 1234 00 dbin,w 1234 00 dbin wait,3 1234 56 dbin,4 1234 00,5 1234 00,6 1234 00", "1 1234 34 ale s1 s0,2 1234 00 s1 s0 rd,w 1234 00 s1 s0 rd,3 1234 56 s1 s0 rd,4 1234 00 s1 s0,5 1234 00 s1 s0,6 1234 00 s1 s0"},
		{cycle(api.CycRead, 3, 3, 1), "1 1234 82 sync,2 1234 00 dbin,w 1234 00 dbin wait,3 1234 56 dbin", "1 1234 34 ale s1,2 1234 00 s1 rd,w 1234 00 s1 rd,3 1234 56 s1 rd"},
		{cycle(api.CycWrite, 3, 3, 1), "1 1234 00 sync,2 1234 56,w 1234 56 wait wr,3 1234 56 wr", "1 1234 34 ale s0,2 1234 56 s0 wr,w 1234 56 s0 wr,3 1234 56 s0 wr"},
		{cycle(api.CycPop, 3, 3, 0), "1 1234 86 sync,2 1234 00 dbin,3 1234 56 dbin", "1 1234 34 ale s1,2 1234 00 s1 rd,3 1234 56 s1 rd"},
		{cycle(api.CycPush, 5, 5, 0), "1 1234 04 sync,2 1234 56,3 1234 56 wr,4 1234 00,5 1234 00", "1 1234 34 ale s0,2 1234 56 s0 wr,3 1234 56 s0 wr,4 1234 00 s0,5 1234 00 s0"},
		{cycle(api.CycIn, 3, 3, 0), "1 1234 42 sync,2 1234 00 dbin,3 1234 56 dbin", "1 1234 34 ale iom s1,2 1234 00 iom s1 rd,3 1234 56 iom s1 rd"},
		{cycle(api.CycOut, 3, 3, 1), "1 1234 10 sync,2 1234 56,w 1234 56 wait wr,3 1234 56 wr", "1 1234 34 ale iom s0,2 1234 56 iom s0 wr,w 1234 56 iom s0 wr,3 1234 56 iom s0 wr"},
		{cycle(api.CycAck, 4, 4, 1), "1 1234 23 sync,2 1234 00 dbin,w 1234 00 dbin wait,3 1234 56 dbin,4 1234 00", "1 1234 34 ale iom s1 s0,2 1234 00 iom s1 s0 inta,w 1234 00 iom s1 s0 inta,3 1234 56 iom s1 s0 inta,4 1234 00 iom s1 s0"},
		{cycle(api.CycMore, 3, 3, 0), "1 1234 03 sync,2 1234 00 dbin,3 1234 56 dbin", "1 1234 34 ale iom s1 s0,2 1234 00 iom s1 s0 inta,3 1234 56 iom s1 s0 inta"},
		{cycle(api.CycHalt, 3, 3, 0), "1 1234 8a sync,2 1234 00,3 1234 00", "1 1234 34 ale,2 1234 00,3 1234 00"},
		{cycle(api.CycIdle, 3, 3, 1), "1 1234 00,2 1234 00,w 1234 00 wait,3 1234 00", "1 1234 34 ale s1,2 1234 00 s1,w 1234 00 s1,3 1234 00 s1"},
		{cycle(api.CycRst, 6, 4, 0), "1 1234 00,2 1234 00,3 1234 00,4 1234 00", "1 1234 34 ale iom s1 s0,2 1234 00 iom s1 s0,3 1234 00 iom s1 s0,4 1234 00 iom s1 s0"},
		{cycle(99, 3, 3, 1), "1 1234 00 sync,2 1234 00,w 1234 00 wait,3 1234 00", "1 1234 34 ale,2 1234 00,w 1234 00,3 1234 00"},
		{hold, "h 0000 00 hlda float,h 0000 00 hlda float", "h 0000 00 hlda float,h 0000 00 hlda float"},
		{halt, "z 1234 00 wait,z 1234 00 wait", "z 0000 00 float,z 0000 00 float"},
		{reset, "r 0000 00,r 0000 00", "r 0000 00 float,r 0000 00 float"},
	} {
		for n := range 4 {
			item := lit(x.item, n&1 == 1, n&2 == 2)
			for _, chip := range chips {
				want := x.early
				if chip == api.Chip8085 {
					want = x.later
				}
				var got []string
				for _, p := range grammar.Expand(chip, []api.Item{item}) {
					if p.Inte != (item.Inte && chip != api.Chip8085) || p.Sod != (item.Sod && chip == api.Chip8085) {
						t.Errorf("on the chip %d, IE and SOD of %+v give %t and %t", chip, item, p.Inte, p.Sod)
					}
					p.Inte, p.Sod = false, false
					got = append(got, pinText(p))
				}
				if strings.Join(got, ",") != want {
					t.Errorf("on the chip %d, %+v has the states %q, want %q", chip, item, got, want)
				}
			}
		}
	}
}

// R2: neither the arguments nor their spare capacity change, and a result is new.
func TestNothingIsShared(t *testing.T) {
	m := newMaker()
	for range 200 {
		whole := append(m.valid(8), m.items(8)...)
		kept := slices.Clone(whole)
		l := whole[:m.IntN(8)]
		first := grammar.Expand(api.Chip8085, l)
		want := slices.Clone(first)
		second := grammar.Expand(api.Chip8085, l)
		grammar.States(l)
		grammar.Valid(api.Chip8085, l)
		if !slices.Equal(whole, kept) {
			t.Fatalf("%+v turns into %+v", kept, whole)
		}
		for i := range second[:cap(second)] {
			second[:cap(second)][i].Addr++
		}
		clear(whole)
		if !slices.Equal(first, want) {
			t.Fatalf("the expansion of %+v turns into %+v", kept[:len(l)], first)
		}
	}
}

package dump_test

import (
	"slices"
	"strings"
	"testing"

	"tstate/api"
	"tstate/dump"
)

// examples are traces with their texts.
var examples = []struct {
	l []api.Pins
	s string
}{
	{nil, ""},
	{[]api.Pins{}, ""},
	{[]api.Pins{{State: api.T1, Data: 0xA2, Sync: true}}, "t1 0000 a2 sync\n"},
	{[]api.Pins{{State: api.T1}}, "t1 0000 00\n"},
	{[]api.Pins{{State: api.T2, Addr: 0x0001, Data: 0x10, Dbin: true, Inte: true}}, "t2 0001 10 dbin inte\n"},
	{[]api.Pins{{State: api.T3, Addr: 0xFFFF, Data: 0xFF, Wr: true}}, "t3 ffff ff wr\n"},
	{[]api.Pins{{State: api.T4, Addr: 0x89AB}, {State: api.T5, Addr: 0xCDEF}, {State: api.T6, Addr: 0x0F0A}}, "t4 89ab 00\nt5 cdef 00\nt6 0f0a 00\n"},
	{[]api.Pins{{State: api.TWait, Addr: 0x1000, Rd: true, S1: true}, {State: api.TWait, Addr: 0x1000, Rd: true, S1: true}}, "tw 1000 00 s1 rd\ntw 1000 00 s1 rd\n"},
	{[]api.Pins{{State: api.THold, Hlda: true, Float: true}, {State: api.THalt, Wait: true}, {State: api.TReset, Sod: true, Float: true}}, "th 0000 00 hlda float\nthalt 0000 00 wait\ntreset 0000 00 sod float\n"},
	{[]api.Pins{{State: api.T1, Addr: 0x4321, Data: 0x21, Ale: true, IOM: true, S1: true, S0: true}, {State: api.T2, Inta: true}}, "t1 4321 21 ale iom s1 s0\nt2 0000 00 inta\n"},
	{[]api.Pins{pins(api.TReset, 0xABCD, 0xEF, 1<<14-1)}, "treset abcd ef sync dbin wait inte ale iom s1 s0 rd inta sod wr hlda float\n"},
}

// P28.1 and P28.2: traces with their texts, spelled out.
func TestExamples(t *testing.T) {
	var trace []api.Pins
	var s string
	for _, x := range examples {
		checkFormat(t, x.l, x.s)
		checkParse(t, x.s, x.l)
		trace, s = append(trace, x.l...), s+x.s
	}
	checkFormat(t, trace, s)
	checkParse(t, s, trace)
}

// P28.1 and P28.2: the names of the states. All other numbers are written as ?, which is no name of a state in Parse.
func TestStates(t *testing.T) {
	for state, name := range names {
		checkFormat(t, []api.Pins{{State: state}}, name+" 0000 00\n")
		checkParse(t, name+" 0000 00\n", []api.Pins{{State: state}})
	}
	for _, state := range noStates {
		checkFormat(t, []api.Pins{{State: state}}, "? 0000 00\n")
		all := pins(state, 0x1234, 0x56, 1<<14-1)
		checkFormat(t, []api.Pins{{State: api.T1}, all, {State: api.T2}}, "t1 0000 00\n"+text(0, 0x1234, 0x56, 1<<14-1)+"t2 0000 00\n")
	}
	checkFormat(t, []api.Pins{{}, {}}, "? 0000 00\n? 0000 00\n")
	checkWrong(t, "? 0000 00\n", 1)
	checkWrong(t, "t1 0000 00\n? 0000 00\nt2 0000 00\n", 2)
}

// P28.1 and P28.2: each pin alone, by the name of its own.
func TestPins(t *testing.T) {
	for _, x := range levels {
		one := x.pins
		one.State, one.Addr, one.Data = api.T3, 0x0102, 0x03
		checkFormat(t, []api.Pins{one}, "t3 0102 03 "+x.name+"\n")
		checkParse(t, "t3 0102 03 "+x.name+"\n", []api.Pins{one})
	}
}

// P28.1 to P28.3: all sets of pins.
func TestSetsOfPins(t *testing.T) {
	var trace []api.Pins
	var s strings.Builder
	for bits := range 1 << 14 {
		state, addr, data := api.T1+bits%10, uint16(bits*5), byte(bits)
		trace = append(trace, pins(state, addr, data, bits))
		s.WriteString(text(state, addr, data, bits))
	}
	checkFormat(t, trace, s.String())
	checkParse(t, s.String(), trace)
}

// P28.1 to P28.3: all addresses and all bytes of data.
func TestNumbers(t *testing.T) {
	var trace []api.Pins
	var s strings.Builder
	for addr := range 65536 {
		data := byte(addr ^ addr>>8)
		trace = append(trace, api.Pins{State: api.T2, Addr: uint16(addr), Data: data})
		s.WriteString(text(api.T2, uint16(addr), data, 0))
	}
	checkFormat(t, trace, s.String())
	checkParse(t, s.String(), trace)
}

// R2: neither the argument nor its spare capacity changes or matters, and a result shares no memory with it.
func TestFormatSharesNothing(t *testing.T) {
	m := newMaker()
	for range 200 {
		whole, _ := m.trace(8)
		kept := slices.Clone(whole)
		n := m.IntN(9)
		first := dump.Format(whole[:n])
		want := strings.Clone(first)
		if !slices.Equal(whole, kept) || first != dump.Format(slices.Clip(slices.Clone(kept[:n]))) {
			t.Fatalf("Format(%+v) = %q, and the argument is %+v", kept[:n], first, whole)
		}
		clear(whole)
		dump.Format(whole)
		if first != want {
			t.Fatalf("the text %q turns into %q", want, first)
		}
	}
}

package dump_test

import (
	"fmt"
	"math"
	"math/rand/v2"
	"regexp"
	"slices"
	"strings"
	"testing"

	"tstate/api"
	"tstate/dump"
)

// names are the names of the states.
var names = map[int]string{
	api.T1: "t1", api.T2: "t2", api.T3: "t3", api.T4: "t4", api.T5: "t5", api.T6: "t6",
	api.TWait: "tw", api.THold: "th", api.THalt: "thalt", api.TReset: "treset",
}

// noStates are numbers that are not from T1 to TReset.
var noStates = []int{
	0, 11, 12, 99, -1, -2, -10, 255, 256, 256 + api.T1, -256 + api.T3, 65536 + api.THalt,
	1<<32 + api.T1, -1<<32 + api.TReset, math.MaxInt32, math.MaxInt, math.MinInt, math.MinInt + api.T1,
}

// levels are the names of the pins in the order of the text, with records in which only this pin is true.
var levels = []struct {
	name string
	pins api.Pins
}{
	{"sync", api.Pins{Sync: true}}, {"dbin", api.Pins{Dbin: true}}, {"wait", api.Pins{Wait: true}}, {"inte", api.Pins{Inte: true}},
	{"ale", api.Pins{Ale: true}}, {"iom", api.Pins{IOM: true}}, {"s1", api.Pins{S1: true}}, {"s0", api.Pins{S0: true}},
	{"rd", api.Pins{Rd: true}}, {"inta", api.Pins{Inta: true}}, {"sod", api.Pins{Sod: true}}, {"wr", api.Pins{Wr: true}},
	{"hlda", api.Pins{Hlda: true}}, {"float", api.Pins{Float: true}},
}

// pins returns a record in which the pins are true whose bits are set, bit 0 for the first one.
func pins(state int, addr uint16, data byte, bits int) api.Pins {
	set := func(i int) bool { return bits>>i&1 == 1 }
	return api.Pins{
		State: state, Addr: addr, Data: data,
		Sync: set(0), Dbin: set(1), Wait: set(2), Inte: set(3), Ale: set(4), IOM: set(5), S1: set(6), S0: set(7),
		Rd: set(8), Inta: set(9), Sod: set(10), Wr: set(11), Hlda: set(12), Float: set(13),
	}
}

// text is a model of the line of a record, with the byte 10 at its end.
func text(state int, addr uint16, data byte, bits int) string {
	name, ok := names[state]
	if !ok {
		name = "?"
	}
	out := fmt.Sprintf("%s %04x %02x", name, addr, data)
	for i, l := range levels {
		if bits>>i&1 == 1 {
			out += " " + l.name
		}
	}
	return out + "\n"
}

// form is the form of a line, with the byte 10 at its end.
var form = regexp.MustCompile(`\A(t[1-6]|tw|th|thalt|treset) [0-9a-f]{4} [0-9a-f]{2}( sync)?( dbin)?( wait)?( inte)?` +
	`( ale)?( iom)?( s1)?( s0)?( rd)?( inta)?( sod)?( wr)?( hlda)?( float)?\n\z`)

// wrongLine is a model of the number that Parse returns for a text.
func wrongLine(s string) int {
	for i, line := range strings.SplitAfter(s, "\n") {
		if line != "" && !form.MatchString(line) {
			return i + 1
		}
	}
	return 0
}

// checkFormat compares the text of a trace with another one.
func checkFormat(t *testing.T, l []api.Pins, want string) {
	t.Helper()
	if got := dump.Format(l); got != want {
		t.Fatalf("Format(%+v) = %q, want %q", l, got, want)
	}
}

// checkParse compares the trace of a text with another one.
func checkParse(t *testing.T, s string, want []api.Pins) {
	t.Helper()
	if l, line, e := dump.Parse(s); !slices.Equal(l, want) || line != 0 || e != api.OK {
		t.Fatalf("Parse(%q) = %+v, %d, %d, want %+v", s, l, line, e, want)
	}
}

// checkWrong checks that a text has no trace, and which line is the first wrong one.
func checkWrong(t *testing.T, s string, want int) {
	t.Helper()
	if l, line, e := dump.Parse(s); len(l) != 0 || line != want || e != api.ErrSyntax {
		t.Fatalf("Parse(%q) = %+v, %d, %d, want ErrSyntax in the line %d", s, l, line, e, want)
	}
}

// checkAny compares Parse of any text with the model, and reports whether the text has a trace.
func checkAny(t *testing.T, s string) bool {
	t.Helper()
	if line := wrongLine(s); line != 0 {
		checkWrong(t, s, line)
		return false
	}
	l, line, e := dump.Parse(s)
	if line != 0 || e != api.OK || len(l) != strings.Count(s, "\n") || dump.Format(l) != s {
		t.Fatalf("Parse(%q) = %+v, %d, %d", s, l, line, e)
	}
	return true
}

// maker makes arguments from a sequence of numbers that is always the same.
type maker struct{ *rand.Rand }

func newMaker() maker { return maker{rand.New(rand.NewPCG(28, 3))} }

// trace returns any trace of n records, and its text. All states are from T1 to TReset.
func (m maker) trace(n int) (l []api.Pins, s string) {
	var b strings.Builder
	for range n {
		state, addr, data, bits := api.T1+m.IntN(10), uint16(m.IntN(65536)), byte(m.IntN(256)), m.IntN(1<<14)
		if m.IntN(2) == 0 {
			bits &= m.IntN(1<<14) & m.IntN(1<<14)
		}
		l = append(l, pins(state, addr, data, bits))
		b.WriteString(text(state, addr, data, bits))
	}
	return l, b.String()
}

package status_test

import (
	"math"
	"testing"

	"tstate/api"
	"tstate/status"
)

// levels are those of IO/M, S1 and S0.
type levels struct{ iom, s1, s0 bool }

// kinds are all kinds of machine cycles, with what the chapter says about them.
var kinds = []struct {
	name          string
	kind          int
	b             byte
	lines         levels
	reads, writes bool
}{
	{"CycFetch", api.CycFetch, 0xA2, levels{false, true, true}, true, false},
	{"CycRead", api.CycRead, 0x82, levels{false, true, false}, true, false},
	{"CycWrite", api.CycWrite, 0x00, levels{false, false, true}, false, true},
	{"CycPop", api.CycPop, 0x86, levels{false, true, false}, true, false},
	{"CycPush", api.CycPush, 0x04, levels{false, false, true}, false, true},
	{"CycIn", api.CycIn, 0x42, levels{true, true, false}, true, false},
	{"CycOut", api.CycOut, 0x10, levels{true, false, true}, false, true},
	{"CycAck", api.CycAck, 0x23, levels{true, true, true}, true, false},
	{"CycMore", api.CycMore, 0x03, levels{true, true, true}, true, false},
	{"CycHalt", api.CycHalt, 0x8A, levels{false, false, false}, false, false},
	{"CycIdle", api.CycIdle, 0x00, levels{false, true, false}, false, false},
	{"CycRst", api.CycRst, 0x00, levels{true, true, true}, false, false},
}

// others returns numbers that are no kinds, also those that agree with one in their low bits alone.
func others() []int {
	numbers := []int{0, math.MinInt, math.MinInt + 1, math.MaxInt, math.MaxInt - 1}
	for n := range 300 {
		numbers = append(numbers, -1-n, 13+n)
	}
	for _, x := range kinds {
		for _, bit := range []int{8, 16, 31, 32} {
			numbers = append(numbers, x.kind+1<<bit, x.kind-1<<bit)
		}
		numbers = append(numbers, x.kind+math.MinInt)
	}
	return numbers
}

// everyNumber returns the numbers of all kinds and the others.
func everyNumber() []int {
	numbers := others()
	for _, x := range kinds {
		numbers = append(numbers, x.kind)
	}
	return numbers
}

func linesOf(kind int) levels {
	iom, s1, s0 := status.Lines(kind)
	return levels{iom, s1, s0}
}

// The tests spell out each kind once.
func TestKindsAreComplete(t *testing.T) {
	for n, x := range kinds {
		if x.kind != n+1 {
			t.Errorf("%s is %d, want %d", x.name, x.kind, n+1)
		}
	}
}

// P18.1
func TestByte(t *testing.T) {
	for _, x := range kinds {
		if got := status.Byte(x.kind); got != x.b {
			t.Errorf("Byte(%s) = %#02x, want %#02x", x.name, got, x.b)
		}
	}
}

// P18.1: numbers that are no kinds.
func TestByteOfOtherNumbers(t *testing.T) {
	for _, n := range others() {
		if got := status.Byte(n); got != 0 {
			t.Errorf("Byte(%d) = %#02x, want 0", n, got)
		}
	}
}

// P18.2
func TestLines(t *testing.T) {
	for _, x := range kinds {
		if got := linesOf(x.kind); got != x.lines {
			t.Errorf("Lines(%s) = %+v, want %+v", x.name, got, x.lines)
		}
	}
}

// P18.2: numbers that are no kinds.
func TestLinesOfOtherNumbers(t *testing.T) {
	for _, n := range others() {
		if got := linesOf(n); got != (levels{}) {
			t.Errorf("Lines(%d) = %+v, want none", n, got)
		}
	}
}

// P18.3
func TestReadsAndWrites(t *testing.T) {
	for _, x := range kinds {
		if got := status.Reads(x.kind); got != x.reads {
			t.Errorf("Reads(%s) = %t, want %t", x.name, got, x.reads)
		}
		if got := status.Writes(x.kind); got != x.writes {
			t.Errorf("Writes(%s) = %t, want %t", x.name, got, x.writes)
		}
	}
}

// P18.3: numbers that are no kinds.
func TestReadsAndWritesOfOtherNumbers(t *testing.T) {
	for _, n := range others() {
		if status.Reads(n) || status.Writes(n) {
			t.Errorf("Reads(%d) = %t and Writes(%d) = %t, want false", n, status.Reads(n), n, status.Writes(n))
		}
	}
}

// P18.4: no cycle reads and writes.
func TestNoCycleReadsAndWrites(t *testing.T) {
	for _, n := range everyNumber() {
		if status.Reads(n) && status.Writes(n) {
			t.Errorf("cycles of the kind %d read and write", n)
		}
	}
}

// P18.4: bit 1 of the status byte, for cycles that read, that write, and for CycHalt.
func TestBitOfTheStatusByte(t *testing.T) {
	for _, n := range everyNumber() {
		bit := status.Byte(n)&0x02 != 0
		if (status.Reads(n) || n == api.CycHalt) && !bit {
			t.Errorf("bit 1 of Byte(%d) is 0, want 1", n)
		}
		if status.Writes(n) && bit {
			t.Errorf("bit 1 of Byte(%d) is 1, want 0", n)
		}
	}
}

// P18.4: S1 for cycles that read, and S0 for those that write.
func TestLinesOfReadsAndWrites(t *testing.T) {
	for _, n := range everyNumber() {
		x := linesOf(n)
		if status.Reads(n) && !x.s1 {
			t.Errorf("S1 of the kind %d is not set, and its cycles read", n)
		}
		if status.Writes(n) && !x.s0 {
			t.Errorf("S0 of the kind %d is not set, and its cycles write", n)
		}
	}
}

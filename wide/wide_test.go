package wide_test

import (
	"math"
	"strings"
	"testing"

	"tstate/api"
	"tstate/wide"
)

// others are numbers that are not api.Chip8085, so that they count as the 8080.
var others = []int{api.Chip8080, 0, 3, 7, -1, -2, api.Chip8085 + 256, math.MaxInt, math.MinInt, math.MinInt + api.Chip8085}

var chips = append([]int{api.Chip8085}, others...)

// edges are the words where a carry, a borrow or an overflow begins or ends, and some between them.
var edges = []uint16{
	0x0000, 0x0001, 0x0034, 0x007F, 0x0080, 0x00FF, 0x0100, 0x0101, 0x0FFF, 0x1000, 0x1234, 0x3FFF, 0x4000, 0x5A5A,
	0x7F00, 0x7FFE, 0x7FFF, 0x8000, 0x8001, 0x80FF, 0x8100, 0xA5C3, 0xBFFF, 0xC000, 0xEFFF, 0xF000, 0xFF00, 0xFF01, 0xFFFE, 0xFFFF,
}

// letters names the flags one by one: A is AC, C is CY.
const letters = "SZKAPVC"

// set returns the flags whose letters occur.
func set(s string) api.Flags {
	has := func(letter string) bool { return strings.Contains(s, letter) }
	return api.Flags{S: has("S"), Z: has("Z"), K: has("K"), AC: has("A"), P: has("P"), V: has("V"), CY: has("C")}
}

// allFlags returns all 128 sets of flags.
func allFlags() (all []api.Flags) {
	for n := range 128 {
		all = append(all, api.Flags{S: n&1 > 0, Z: n&2 > 0, K: n&4 > 0, AC: n&8 > 0, P: n&16 > 0, V: n&32 > 0, CY: n&64 > 0})
	}
	return all
}

// dad returns what P7.1 requires. Two words of one sign overflow if their sum has the other one.
func dad(chip int, a, b uint16, f api.Flags) (uint16, api.Flags) {
	total := int(a) + int(b)
	r := total % 65536
	f.CY = total != r
	if chip == api.Chip8085 {
		f.V = a < 32768 && b < 32768 && r >= 32768 || a >= 32768 && b >= 32768 && r < 32768
	}
	return uint16(r), f
}

// dsub returns what P7.2 requires, in one step of whole numbers. The low byte of the result is from 0 to 255, so the high
// bytes with their borrow leave their range where the words do; AC is true if there is no borrow from bit 12, and the
// majority in K is true if a is less than b as a signed number.
func dsub(a, b uint16) (uint16, api.Flags) {
	x, y := int(a), int(b)
	r := (x - y + 65536) % 65536
	less, wrapped := signed(x) < signed(y), signed(r) != signed(x)-signed(y)
	return uint16(r), api.Flags{S: r > 32767, Z: r == 0, K: less, AC: x%4096 >= y%4096, P: even(r / 256), V: wrapped, CY: x < y}
}

func signed(n int) int {
	if n > 32767 {
		return n - 65536
	}
	return n
}

func even(n int) bool {
	ones := 0
	for ; n > 0; n /= 2 {
		ones += n % 2
	}
	return ones%2 == 0
}

// forPairs calls f with every word and each of the edges, in both orders, and with all pairs of bytes as the low and as the
// high bytes of words whose other bytes are fixed.
func forPairs(f func(a, b uint16)) {
	for n := range 1 << 16 {
		v := uint16(n)
		for _, e := range edges {
			f(v, e)
			f(e, v)
		}
		for _, e := range [][2]uint16{{0x0000, 0x0000}, {0x00FF, 0x0000}, {0x0000, 0x00FF}, {0x7F80, 0x807F}, {0x807F, 0x7F80}, {0x1233, 0x1234}, {0xFFFF, 0xFFFF}} {
			f(e[0]&0xFF00|v>>8, e[1]&0xFF00|v&0x00FF)
			f(v&0xFF00|e[0]&0x00FF, v<<8|e[1]&0x00FF)
		}
	}
}

type example struct {
	a, b uint16
	f    string
	r    uint16
	want string
}

func checkDad(t *testing.T, chip int, examples []example) {
	t.Helper()
	for _, x := range examples {
		if r, f := wide.Dad(chip, x.a, x.b, set(x.f)); r != x.r || f != set(x.want) {
			t.Errorf("Dad(%d, %#04x, %#04x, %q) = %#04x, %+v, want %#04x, %q", chip, x.a, x.b, x.f, r, f, x.r, x.want)
		}
	}
}

// P7.1
func TestDadOf8080(t *testing.T) {
	for _, chip := range others {
		checkDad(t, chip, []example{
			{0xFFFF, 0x0001, "", 0x0000, "C"}, {0xFFFF, 0x0000, "C", 0xFFFF, ""}, {0x0000, 0x0000, "", 0x0000, ""},
			{0x1234, 0x1111, letters, 0x2345, "SZKAPV"}, {0x00FF, 0x0001, "", 0x0100, ""}, {0xFF00, 0x0100, "", 0x0000, "C"},
			{0x7FFF, 0x0001, "", 0x8000, ""}, {0x7FFF, 0x0001, "V", 0x8000, "V"}, {0x8000, 0x8000, "", 0x0000, "C"},
			{0x8000, 0x8000, "KV", 0x0000, "KVC"}, {0xFFFF, 0xFFFF, "SZAP", 0xFFFE, "SZAPC"}, {0x0001, 0x0001, "V", 0x0002, "V"},
		})
	}
}

// P7.1
func TestDadOf8085(t *testing.T) {
	checkDad(t, api.Chip8085, []example{
		{0xFFFF, 0x0001, "", 0x0000, "C"}, {0xFFFF, 0x0001, "V", 0x0000, "C"}, {0xFFFF, 0x0000, "C", 0xFFFF, ""},
		{0x0000, 0x0000, letters, 0x0000, "SZKAP"}, {0x1234, 0x1111, "VC", 0x2345, ""}, {0x00FF, 0x0001, "", 0x0100, ""},
		{0x7FFF, 0x0000, "V", 0x7FFF, ""}, {0x7FFF, 0x0001, "", 0x8000, "V"}, {0x7FFF, 0x7FFF, "C", 0xFFFE, "V"},
		{0x8000, 0x8000, "", 0x0000, "VC"}, {0x8000, 0xFFFF, "", 0x7FFF, "VC"}, {0x8001, 0xFFFF, "V", 0x8000, "C"},
		{0x7FFF, 0x8000, "VC", 0xFFFF, ""}, {0x7FFF, 0x8001, "V", 0x0000, "C"}, {0x4000, 0x4000, "SZKAP", 0x8000, "SZKAPV"},
		{0xC000, 0xC000, "", 0x8000, "C"}, {0xBFFF, 0xC000, "SZKAP", 0x7FFF, "SZKAPVC"}, {0x3FFF, 0x4000, "V", 0x7FFF, ""},
	})
}

// P7.1
func TestDadOfManyWords(t *testing.T) {
	for _, chip := range []int{api.Chip8085, api.Chip8080, 0} {
		for _, old := range []api.Flags{{}, set(letters)} {
			forPairs(func(a, b uint16) {
				wantR, want := dad(chip, a, b, old)
				if r, f := wide.Dad(chip, a, b, old); r != wantR || f != want {
					t.Fatalf("Dad(%d, %#04x, %#04x, %+v) = %#04x, %+v, want %#04x, %+v", chip, a, b, old, r, f, wantR, want)
				}
			})
		}
	}
}

// P7.1: all chips and old flags, of which CY, and V on the 8085, take no part.
func TestDadOfAllFlags(t *testing.T) {
	for _, chip := range chips {
		for _, old := range allFlags() {
			for _, a := range edges {
				for _, b := range edges {
					wantR, want := dad(chip, a, b, old)
					if r, f := wide.Dad(chip, a, b, old); r != wantR || f != want {
						t.Fatalf("Dad(%d, %#04x, %#04x, %+v) = %#04x, %+v, want %#04x, %+v", chip, a, b, old, r, f, wantR, want)
					}
				}
			}
		}
	}
}

// P7.2
func TestDsubExamples(t *testing.T) {
	for _, x := range []struct {
		a, b, r uint16
		want    string
	}{
		{0x0000, 0x0001, 0xFFFF, "SKPC"}, {0x0000, 0x0000, 0x0000, "ZAP"}, {0xFFFF, 0xFFFF, 0x0000, "ZAP"}, {0x1234, 0x1234, 0x0000, "ZAP"},
		// Z is that of the whole result, and P that of its high byte alone.
		{0x0001, 0x0000, 0x0001, "AP"}, {0x0100, 0x0000, 0x0100, "A"}, {0x0101, 0x0000, 0x0101, "A"}, {0x0300, 0x0100, 0x0200, "A"},
		// A borrow of the low bytes.
		{0x0100, 0x0001, 0x00FF, "AP"}, {0x0200, 0x0001, 0x01FF, "A"}, {0x1000, 0x0001, 0x0FFF, "P"}, {0x1000, 0x0100, 0x0F00, "P"},
		{0x1034, 0x0035, 0x0FFF, "P"}, {0x1234, 0x0034, 0x1200, "AP"}, {0x0001, 0x0100, 0xFF01, "SKPC"}, {0x1200, 0x1201, 0xFFFF, "SKPC"},
		// Signs that differ.
		{0x8000, 0x0001, 0x7FFF, "KV"}, {0x8000, 0x0000, 0x8000, "SKA"}, {0x8000, 0x0100, 0x7F00, "KV"}, {0xFFFF, 0x0001, 0xFFFE, "SKAP"},
		{0x7FFF, 0xFFFF, 0x8000, "SAVC"}, {0x0000, 0x8000, 0x8000, "SAVC"}, {0x0000, 0x8001, 0x7FFF, "C"}, {0x0000, 0xFFFF, 0x0001, "PC"},
		// Signs that are equal.
		{0x8000, 0xFFFF, 0x8001, "SKC"}, {0xFFFF, 0x8000, 0x7FFF, "A"}, {0x7FFF, 0x0001, 0x7FFE, "A"}, {0x0001, 0x7FFF, 0x8002, "SKC"},
	} {
		if r, f := wide.Dsub(x.a, x.b); r != x.r || f != set(x.want) {
			t.Errorf("Dsub(%#04x, %#04x) = %#04x, %+v, want %#04x, %q", x.a, x.b, r, f, x.r, x.want)
		}
	}
}

// P7.2
func TestDsubOfManyWords(t *testing.T) {
	forPairs(func(a, b uint16) {
		wantR, want := dsub(a, b)
		if r, f := wide.Dsub(a, b); r != wantR || f != want {
			t.Fatalf("Dsub(%#04x, %#04x) = %#04x, %+v, want %#04x, %+v", a, b, r, f, wantR, want)
		}
	})
}

// P7.3
func TestDadIsCommutative(t *testing.T) {
	for _, chip := range []int{api.Chip8085, api.Chip8080} {
		forPairs(func(a, b uint16) {
			r, f := wide.Dad(chip, a, b, api.Flags{})
			if s, g := wide.Dad(chip, b, a, set(letters)); r != s || f.CY != g.CY {
				t.Fatalf("chip %d: %#04x + %#04x is %#04x with CY %v, or %#04x with CY %v", chip, a, b, r, f.CY, s, g.CY)
			}
		})
	}
}

// P7.3
func TestDsubUndoesDad(t *testing.T) {
	for _, chip := range []int{api.Chip8085, api.Chip8080} {
		forPairs(func(a, b uint16) {
			sum, f := wide.Dad(chip, a, b, api.Flags{})
			// What has carried out of the sum is borrowed again.
			if back, g := wide.Dsub(sum, b); back != a || g.CY != f.CY {
				t.Fatalf("chip %d: %#04x + %#04x - %#04x is %#04x, with CY %v and then %v", chip, a, b, b, back, f.CY, g.CY)
			}
		})
	}
}

// P7.3
func TestCarryOfDsubSaysLess(t *testing.T) {
	forPairs(func(a, b uint16) {
		if _, f := wide.Dsub(a, b); f.CY != (a < b) {
			t.Fatalf("Dsub(%#04x, %#04x) has CY %v", a, b, f.CY)
		}
	})
}

package flags_test

import (
	"fmt"
	"math"
	"strings"
	"testing"

	"tstate/api"
	"tstate/flags"
)

// others are numbers that are not api.Chip8085, so that they count as the 8080.
var others = []int{api.Chip8080, 0, 3, 7, -1, -2, api.Chip8085 + 256, math.MaxInt, math.MinInt, math.MinInt + api.Chip8085}

// letters names the flags one by one: A is AC, C is CY.
const letters = "SZKAPVC"

// set returns the flags whose letters occur.
func set(s string) api.Flags {
	has := func(letter string) bool { return strings.Contains(s, letter) }
	return api.Flags{S: has("S"), Z: has("Z"), K: has("K"), AC: has("A"), P: has("P"), V: has("V"), CY: has("C")}
}

// forAll calls f with the letters of all 128 sets of flags.
func forAll(f func(s string)) {
	for n := range 1 << len(letters) {
		s := ""
		for i := range letters {
			if n>>i&1 == 1 {
				s += letters[i : i+1]
			}
		}
		f(s)
	}
}

// layout8080 and layout8085 spell the byte from bit 7 to bit 0: a letter stands for its flag, a digit for itself.
const (
	layout8080 = "SZ0A0P1C"
	layout8085 = "SZKA0PVC"
)

// spell returns the byte of the layout with the flags whose letters occur in s.
func spell(layout, s string) byte {
	sum := 0
	for _, c := range layout {
		sum *= 2
		if c == '1' || strings.ContainsRune(s, c) {
			sum++
		}
	}
	return byte(sum)
}

// read returns the letters of the layout whose bits are 1 in b.
func read(layout string, b byte) string {
	s := ""
	for i, c := range fmt.Sprintf("%08b", b) {
		if c == '1' && strings.Contains(letters, layout[i:i+1]) {
			s += layout[i : i+1]
		}
	}
	return s
}

// P2.1
func TestPackExamples(t *testing.T) {
	for _, x := range []struct {
		chip int
		s    string
		want byte
	}{
		{api.Chip8080, "", 0x02}, {api.Chip8085, "", 0x00},
		{api.Chip8080, "S", 0x82}, {api.Chip8085, "S", 0x80},
		{api.Chip8080, "Z", 0x42}, {api.Chip8085, "Z", 0x40},
		{api.Chip8080, "A", 0x12}, {api.Chip8085, "A", 0x10},
		{api.Chip8080, "P", 0x06}, {api.Chip8085, "P", 0x04},
		{api.Chip8080, "C", 0x03}, {api.Chip8085, "C", 0x01},
		{api.Chip8080, "K", 0x02}, {api.Chip8085, "K", 0x20},
		{api.Chip8080, "V", 0x02}, {api.Chip8085, "V", 0x02},
		{api.Chip8080, letters, 0xD7}, {api.Chip8085, letters, 0xF7},
	} {
		if got := flags.Pack(x.chip, set(x.s)); got != x.want {
			t.Errorf("Pack(%d, %q) = %#02x, want %#02x", x.chip, x.s, got, x.want)
		}
	}
}

// P2.1
func TestPackOfAllFlags(t *testing.T) {
	forAll(func(s string) {
		if got, want := flags.Pack(api.Chip8085, set(s)), spell(layout8085, s); got != want {
			t.Errorf("Pack(8085, %q) = %#02x, want %#02x", s, got, want)
		}
		for _, chip := range others {
			if got, want := flags.Pack(chip, set(s)), spell(layout8080, s); got != want {
				t.Errorf("Pack(%d, %q) = %#02x, want %#02x", chip, s, got, want)
			}
		}
	})
}

// P2.2
func TestUnpackExamples(t *testing.T) {
	for _, x := range []struct {
		chip int
		b    byte
		want string
	}{
		{api.Chip8080, 0x00, ""}, {api.Chip8085, 0x00, ""},
		{api.Chip8080, 0xFF, "SZAPC"}, {api.Chip8085, 0xFF, letters},
		{api.Chip8080, 0x2A, ""}, {api.Chip8085, 0x2A, "KV"},
		{api.Chip8080, 0x02, ""}, {api.Chip8085, 0x02, "V"},
		{api.Chip8080, 0x20, ""}, {api.Chip8085, 0x20, "K"},
		{api.Chip8080, 0x08, ""}, {api.Chip8085, 0x08, ""},
		{api.Chip8080, 0x91, "SAC"}, {api.Chip8085, 0x44, "ZP"},
	} {
		if got := flags.Unpack(x.chip, x.b); got != set(x.want) {
			t.Errorf("Unpack(%d, %#02x) = %+v, want %q", x.chip, x.b, got, x.want)
		}
	}
}

// P2.2
func TestUnpackOfAllBytes(t *testing.T) {
	for n := range 256 {
		b := byte(n)
		if got, want := flags.Unpack(api.Chip8085, b), read(layout8085, b); got != set(want) {
			t.Errorf("Unpack(8085, %#02x) = %+v, want %q", b, got, want)
		}
		for _, chip := range others {
			if got, want := flags.Unpack(chip, b), read(layout8080, b); got != set(want) {
				t.Errorf("Unpack(%d, %#02x) = %+v, want %q", chip, b, got, want)
			}
		}
	}
}

// P2.3
func TestOfExamples(t *testing.T) {
	for _, x := range []struct {
		r    byte
		want string
	}{
		{0x00, "ZP"}, {0x01, ""}, {0x03, "P"}, {0x7F, ""}, {0x7E, "P"}, {0x80, "S"}, {0x81, "SP"}, {0xFE, "S"}, {0xFF, "SP"},
	} {
		if got := flags.Of(x.r); got != set(x.want) {
			t.Errorf("Of(%#02x) = %+v, want %q", x.r, got, x.want)
		}
	}
}

// P2.3
func TestOfAllBytes(t *testing.T) {
	for n := range 256 {
		ones := strings.Count(fmt.Sprintf("%b", n), "1")
		want := api.Flags{S: n >= 128, Z: n == 0, P: ones%2 == 0}
		if got := flags.Of(byte(n)); got != want {
			t.Errorf("Of(%#02x) = %+v, want %+v", n, got, want)
		}
	}
}

// P2.4
func TestUnpackRevertsPack(t *testing.T) {
	forAll(func(s string) {
		f := set(s)
		if got := flags.Unpack(api.Chip8085, flags.Pack(api.Chip8085, f)); got != f {
			t.Errorf("8085: %q becomes %+v", s, got)
		}
		f.K, f.V = false, false
		for _, chip := range others {
			if got := flags.Unpack(chip, flags.Pack(chip, set(s))); got != f {
				t.Errorf("chip %d: %q becomes %+v", chip, s, got)
			}
		}
	})
}

// P2.4
func TestPackRevertsUnpack(t *testing.T) {
	for n := range 256 {
		b := byte(n)
		if got := flags.Pack(api.Chip8085, flags.Unpack(api.Chip8085, b)); (got^b)&0b1111_0111 != 0 {
			t.Errorf("8085: %#02x becomes %#02x", b, got)
		}
		for _, chip := range others {
			if got := flags.Pack(chip, flags.Unpack(chip, b)); (got^b)&0b1101_0101 != 0 {
				t.Errorf("chip %d: %#02x becomes %#02x", chip, b, got)
			}
		}
	}
}

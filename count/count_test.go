package count_test

import (
	"math"
	"strings"
	"testing"

	"tstate/api"
	"tstate/count"
)

// others are numbers that are not api.Chip8085, so that they count as the 8080.
var others = []int{api.Chip8080, 0, 3, 7, -1, -2, api.Chip8085 + 256, math.MaxInt, math.MinInt, math.MinInt + api.Chip8085}

var chips = append([]int{api.Chip8085}, others...)

// letters names the flags one by one: A is AC, C is CY.
const letters = "SZKAPVC"

// set returns the flags whose letters occur.
func set(s string) api.Flags {
	has := func(letter string) bool { return strings.Contains(s, letter) }
	return api.Flags{S: has("S"), Z: has("Z"), K: has("K"), AC: has("A"), P: has("P"), V: has("V"), CY: has("C")}
}

// allFlags returns all 128 sets of flags.
func allFlags() (all []api.Flags) {
	for n := range 128 {
		all = append(all, api.Flags{S: n&1 > 0, Z: n&2 > 0, K: n&4 > 0, AC: n&8 > 0, P: n&16 > 0, V: n&32 > 0, CY: n&64 > 0})
	}
	return all
}

type byteStep func(chip int, v byte, f api.Flags) (byte, api.Flags)

type wordStep func(chip int, v uint16, f api.Flags) (uint16, api.Flags)

// model returns what P4.1 requires of the step from v by d (1 or -1), without the packages bits and flags. Its carry of
// bit 3, its overflow and its K are lists of the bytes where the chapter's formulas are true.
func model(is8085 bool, v byte, d int, carry bool) (byte, api.Flags) {
	r := (int(v) + d + 256) % 256
	f := api.Flags{S: r > 127, Z: r == 0, P: even(r), CY: carry}
	if d > 0 {
		f.AC = v%16 == 15
	} else {
		f.AC = v%16 != 0
	}
	if !is8085 {
		return byte(r), f
	}
	if d > 0 {
		f.V = v == 127
		f.K = 128 <= v && v <= 254
	} else {
		f.V = v == 128
		f.K = v == 0 || 128 <= v
	}
	return byte(r), f
}

func even(n int) bool {
	ones := 0
	for ; n > 0; n /= 2 {
		ones += n % 2
	}
	return ones%2 == 0
}

type byteExample struct {
	v    byte
	f    string
	r    byte
	want string
}

func checkBytes(t *testing.T, name string, step byteStep, chip int, examples []byteExample) {
	t.Helper()
	for _, x := range examples {
		if r, f := step(chip, x.v, set(x.f)); r != x.r || f != set(x.want) {
			t.Errorf("%s(%d, %#02x, %q) = %#02x, %+v, want %#02x, %q", name, chip, x.v, x.f, r, f, x.r, x.want)
		}
	}
}

// P4.1
func TestBytesOf8080(t *testing.T) {
	for _, chip := range others {
		checkBytes(t, "Inr", count.Inr, chip, []byteExample{
			{0x00, "", 0x01, ""}, {0x00, letters, 0x01, "C"}, {0x41, "", 0x42, "P"}, {0x41, "C", 0x42, "PC"},
			{0x0E, "A", 0x0F, "P"}, {0x0F, "", 0x10, "A"}, {0x10, "A", 0x11, "P"}, {0x1F, "C", 0x20, "AC"},
			{0x7E, "", 0x7F, ""}, {0x7F, "KV", 0x80, "SA"}, {0x80, "KV", 0x81, "SP"},
			{0xFE, "Z", 0xFF, "SP"}, {0xFF, "", 0x00, "ZAP"}, {0xFF, "C", 0x00, "ZAPC"},
		})
		checkBytes(t, "Dcr", count.Dcr, chip, []byteExample{
			{0x02, "", 0x01, "A"}, {0x02, letters, 0x01, "AC"}, {0x01, "", 0x00, "ZAP"}, {0x01, "C", 0x00, "ZAPC"},
			{0x00, "", 0xFF, "SP"}, {0x00, "C", 0xFF, "SPC"}, {0x10, "A", 0x0F, "P"}, {0x11, "", 0x10, "A"}, {0x20, "C", 0x1F, "C"},
			{0x81, "KV", 0x80, "SA"}, {0x80, "KV", 0x7F, ""}, {0x7F, "", 0x7E, "AP"}, {0xFF, "", 0xFE, "SA"},
		})
	}
}

// P4.1
func TestBytesOf8085(t *testing.T) {
	checkBytes(t, "Inr", count.Inr, api.Chip8085, []byteExample{
		{0x00, "", 0x01, ""}, {0x00, letters, 0x01, "C"}, {0x0F, "SZKV", 0x10, "A"}, {0x41, "C", 0x42, "PC"},
		{0x7E, "V", 0x7F, ""}, {0x7F, "", 0x80, "SAV"}, {0x7F, "KC", 0x80, "SAVC"}, {0x80, "", 0x81, "SKP"}, {0x80, "VC", 0x81, "SKPC"},
		{0xFE, "", 0xFF, "SKP"}, {0xFF, "", 0x00, "ZAP"}, {0xFF, letters, 0x00, "ZAPC"},
	})
	checkBytes(t, "Dcr", count.Dcr, api.Chip8085, []byteExample{
		{0x02, "", 0x01, "A"}, {0x02, letters, 0x01, "AC"}, {0x01, "C", 0x00, "ZAPC"}, {0x00, "", 0xFF, "SKP"}, {0x00, "AVC", 0xFF, "SKPC"},
		{0x10, "A", 0x0F, "P"}, {0x7F, "K", 0x7E, "AP"}, {0x80, "", 0x7F, "KV"}, {0x80, "C", 0x7F, "KVC"}, {0x81, "V", 0x80, "SKA"},
		{0xFF, "", 0xFE, "SKA"},
	})
}

// P4.1: all chips, bytes and old flags, of which CY alone takes part.
func TestAllBytes(t *testing.T) {
	for _, chip := range chips {
		for _, old := range allFlags() {
			for n := range 256 {
				v := byte(n)
				for name, step := range map[string]byteStep{"Inr": count.Inr, "Dcr": count.Dcr} {
					d := 1
					if name == "Dcr" {
						d = -1
					}
					wantR, want := model(chip == api.Chip8085, v, d, old.CY)
					if r, f := step(chip, v, old); r != wantR || f != want {
						t.Fatalf("%s(%d, %#02x, %+v) = %#02x, %+v, want %#02x, %+v", name, chip, v, old, r, f, wantR, want)
					}
				}
			}
		}
	}
}

type wordExample struct {
	v    uint16
	f    string
	r    uint16
	want string
}

func checkWords(t *testing.T, name string, step wordStep, chip int, examples []wordExample) {
	t.Helper()
	for _, x := range examples {
		if r, f := step(chip, x.v, set(x.f)); r != x.r || f != set(x.want) {
			t.Errorf("%s(%d, %#04x, %q) = %#04x, %+v, want %#04x, %q", name, chip, x.v, x.f, r, f, x.r, x.want)
		}
	}
}

// P4.2
func TestWordsOf8080(t *testing.T) {
	for _, chip := range others {
		checkWords(t, "Inx", count.Inx, chip, []wordExample{
			{0x0000, "", 0x0001, ""}, {0x12FF, "SZAPC", 0x1300, "SZAPC"}, {0x7FFF, "", 0x8000, ""}, {0xFFFE, "C", 0xFFFF, "C"},
			{0xFFFF, "", 0x0000, ""}, {0xFFFF, "KV", 0x0000, "KV"}, {0x0001, letters, 0x0002, letters},
		})
		checkWords(t, "Dcx", count.Dcx, chip, []wordExample{
			{0x0001, "", 0x0000, ""}, {0x1300, "SZAPC", 0x12FF, "SZAPC"}, {0x8000, "", 0x7FFF, ""}, {0xFFFF, "C", 0xFFFE, "C"},
			{0x0000, "", 0xFFFF, ""}, {0x0000, "KV", 0xFFFF, "KV"}, {0x0002, letters, 0x0001, letters},
		})
	}
}

// P4.2
func TestWordsOf8085(t *testing.T) {
	checkWords(t, "Inx", count.Inx, api.Chip8085, []wordExample{
		{0x0000, "", 0x0001, ""}, {0x0000, letters, 0x0001, "SZAPVC"}, {0x00FF, "K", 0x0100, ""}, {0x7FFF, "V", 0x8000, "V"},
		{0xFFFE, "", 0xFFFF, ""}, {0xFFFE, "KC", 0xFFFF, "C"}, {0xFFFF, "", 0x0000, "K"}, {0xFFFF, "SZAPVC", 0x0000, letters},
	})
	checkWords(t, "Dcx", count.Dcx, api.Chip8085, []wordExample{
		{0x0001, "", 0x0000, ""}, {0x0001, letters, 0x0000, "SZAPVC"}, {0x0100, "K", 0x00FF, ""}, {0x8000, "V", 0x7FFF, "V"},
		{0xFFFF, "", 0xFFFE, ""}, {0xFFFF, "KC", 0xFFFE, "C"}, {0x0000, "", 0xFFFF, "K"}, {0x0000, "SZAPVC", 0xFFFF, letters},
	})
}

// P4.2: all chips and words, with no flags, with all of them, and with each one alone.
func TestAllWords(t *testing.T) {
	olds := []string{"", letters, "S", "Z", "K", "A", "P", "V", "C"}
	for _, chip := range chips {
		for _, s := range olds {
			old := set(s)
			for n := range 65536 {
				up, down := old, old
				if chip == api.Chip8085 {
					up.K, down.K = n == 65535, n == 0
				}
				if r, f := count.Inx(chip, uint16(n), old); int(r) != (n+1)%65536 || f != up {
					t.Fatalf("Inx(%d, %#04x, %q) = %#04x, %+v", chip, n, s, r, f)
				}
				if r, f := count.Dcx(chip, uint16(n), old); int(r) != (n+65535)%65536 || f != down {
					t.Fatalf("Dcx(%d, %#04x, %q) = %#04x, %+v", chip, n, s, r, f)
				}
			}
		}
	}
}

// P4.2: all 128 sets of flags, at the words where K changes and beside them.
func TestAllFlagsOfWords(t *testing.T) {
	for _, chip := range chips {
		for _, old := range allFlags() {
			for _, v := range []uint16{0x0000, 0x0001, 0x00FF, 0x0100, 0x7FFF, 0x8000, 0xFFFE, 0xFFFF} {
				up, down := old, old
				if chip == api.Chip8085 {
					up.K, down.K = v == 0xFFFF, v == 0
				}
				if _, f := count.Inx(chip, v, old); f != up {
					t.Errorf("Inx(%d, %#04x, %+v) has the flags %+v", chip, v, old, f)
				}
				if _, f := count.Dcx(chip, v, old); f != down {
					t.Errorf("Dcx(%d, %#04x, %+v) has the flags %+v", chip, v, old, f)
				}
			}
		}
	}
}

// P4.3
func TestDcrUndoesInr(t *testing.T) {
	for _, chip := range chips {
		for n := range 256 {
			for _, carry := range []bool{false, true} {
				v := byte(n)
				up, f := count.Inr(chip, v, api.Flags{CY: carry})
				back, g := count.Dcr(chip, up, f)
				if back != v || f.CY != carry || g.CY != carry {
					t.Errorf("chip %d: Dcr after Inr of %#02x with CY %v is %#02x, %+v", chip, v, carry, back, g)
				}
				down, f := count.Dcr(chip, v, api.Flags{CY: carry})
				if back, g = count.Inr(chip, down, f); back != v || f.CY != carry || g.CY != carry {
					t.Errorf("chip %d: Inr after Dcr of %#02x with CY %v is %#02x, %+v", chip, v, carry, back, g)
				}
			}
		}
	}
}

// P4.3
func TestDcxUndoesInx(t *testing.T) {
	for _, chip := range chips {
		for n := range 65536 {
			for _, carry := range []bool{false, true} {
				v := uint16(n)
				up, f := count.Inx(chip, v, api.Flags{CY: carry})
				back, g := count.Dcx(chip, up, f)
				if back != v || f.CY != carry || g.CY != carry {
					t.Fatalf("chip %d: Dcx after Inx of %#04x with CY %v is %#04x, %+v", chip, v, carry, back, g)
				}
				down, f := count.Dcx(chip, v, api.Flags{CY: carry})
				if back, g = count.Inx(chip, down, f); back != v || f.CY != carry || g.CY != carry {
					t.Fatalf("chip %d: Inx after Dcx of %#04x with CY %v is %#04x, %+v", chip, v, carry, back, g)
				}
			}
		}
	}
}

// P4.3
func TestKSaysWhetherAWordHasWrappedAround(t *testing.T) {
	for n := range 65536 {
		for _, k := range []bool{false, true} {
			if r, f := count.Inx(api.Chip8085, uint16(n), api.Flags{K: k}); f.K != (r == 0) {
				t.Errorf("Inx of %#04x is %#04x with K %v", n, r, f.K)
			}
			if r, f := count.Dcx(api.Chip8085, uint16(n), api.Flags{K: k}); f.K != (r == 0xFFFF) {
				t.Errorf("Dcx of %#04x is %#04x with K %v", n, r, f.K)
			}
		}
	}
}

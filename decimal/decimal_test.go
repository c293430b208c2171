package decimal_test

import (
	"math"
	"strings"
	"testing"

	"tstate/alu"
	"tstate/api"
	"tstate/decimal"
)

// others are numbers that are not api.Chip8085, so that they count as the 8080.
var others = []int{api.Chip8080, 0, 3, 7, -1, -2, api.Chip8085 + 256, math.MaxInt, math.MinInt, math.MinInt + api.Chip8085}

var chips = append([]int{api.Chip8085}, others...)

// letters names the flags one by one: A is AC, C is CY.
const letters = "SZKAPVC"

// set returns the flags whose letters occur.
func set(s string) api.Flags {
	has := func(letter string) bool { return strings.Contains(s, letter) }
	return api.Flags{S: has("S"), Z: has("Z"), K: has("K"), AC: has("A"), P: has("P"), V: has("V"), CY: has("C")}
}

// allFlags returns all 128 sets of flags.
func allFlags() (all []api.Flags) {
	for n := range 128 {
		all = append(all, api.Flags{S: n&1 > 0, Z: n&2 > 0, K: n&4 > 0, AC: n&8 > 0, P: n&16 > 0, V: n&32 > 0, CY: n&64 > 0})
	}
	return all
}

// model returns what P6.1 requires, in whole numbers and without the packages bits and flags. As what is added is never
// negative, the sum overflows if it makes a byte negative, and two of the three signs in K are those of a byte that was
// negative and still is.
func model(is8085 bool, a int, ac, cy bool) (byte, api.Flags) {
	low, high := 0, 0
	if ac || a%16 > 9 {
		low = 6
	}
	if cy || a > 0x99 {
		high = 6
	}
	r := (a + 16*high + low) % 256
	f := api.Flags{S: r > 127, Z: r == 0, P: even(r), AC: a%16+low > 15, CY: high > 0}
	if is8085 {
		f.V = a < 128 && r >= 128
		f.K = a >= 128 && r >= 128
	}
	return byte(r), f
}

func even(n int) bool {
	ones := 0
	for ; n > 0; n /= 2 {
		ones += n % 2
	}
	return ones%2 == 0
}

type example struct {
	a    byte
	f    string
	r    byte
	want string
}

func check(t *testing.T, chip int, examples []example) {
	t.Helper()
	for _, x := range examples {
		if r, f := decimal.Daa(chip, x.a, set(x.f)); r != x.r || f != set(x.want) {
			t.Errorf("Daa(%d, %#02x, %q) = %#02x, %+v, want %#02x, %q", chip, x.a, x.f, r, f, x.r, x.want)
		}
	}
}

// P6.1
func TestDaaOf8080(t *testing.T) {
	for _, chip := range others {
		check(t, chip, []example{
			{0x9B, "", 0x01, "AC"}, {0x42, "", 0x42, "P"}, {0x42, "SZKPV", 0x42, "P"}, {0x00, "", 0x00, "ZP"},
			{0x09, "", 0x09, "P"}, {0x0A, "", 0x10, "A"}, {0x0F, "", 0x15, "A"}, {0x09, "A", 0x0F, "P"}, {0x0A, "A", 0x10, "A"},
			{0x00, "A", 0x06, "P"}, {0x00, "C", 0x60, "PC"}, {0x00, "AC", 0x66, "PC"}, {0x12, letters, 0x78, "PC"},
			{0x99, "", 0x99, "SP"}, {0x9A, "", 0x00, "ZAPC"}, {0x9F, "", 0x05, "APC"}, {0x90, "A", 0x96, "SP"}, {0x99, "A", 0x9F, "SP"},
			{0x8F, "", 0x95, "SAP"}, {0xA0, "", 0x00, "ZPC"}, {0xA0, "A", 0x06, "PC"}, {0xAA, "", 0x10, "AC"}, {0xF9, "", 0x59, "PC"},
			{0xFA, "", 0x60, "APC"}, {0xFF, "", 0x65, "APC"}, {0xFF, letters, 0x65, "APC"}, {0x99, "C", 0xF9, "SPC"}, {0x3A, "C", 0xA0, "SAPC"},
			{0x7A, "", 0x80, "SA"}, {0x20, "C", 0x80, "SC"}, {0x80, "C", 0xE0, "SC"},
		})
	}
}

// P6.1
func TestDaaOf8085(t *testing.T) {
	check(t, api.Chip8085, []example{
		{0x9B, "", 0x01, "AC"}, {0x42, "", 0x42, "P"}, {0x42, "SZKPV", 0x42, "P"}, {0x00, "", 0x00, "ZP"}, {0x0A, "KV", 0x10, "A"},
		{0x79, "", 0x79, ""}, {0x7A, "", 0x80, "SAV"}, {0x7F, "", 0x85, "SAV"}, {0x7A, "A", 0x80, "SAV"}, {0x79, "A", 0x7F, ""},
		{0x1F, "C", 0x85, "SAVC"}, {0x19, "C", 0x79, "C"}, {0x20, "C", 0x80, "SVC"}, {0x79, "AC", 0xDF, "SVC"},
		{0x80, "", 0x80, "SK"}, {0x99, "", 0x99, "SKP"}, {0x80, "C", 0xE0, "SKC"}, {0x99, "AC", 0xFF, "SKPC"}, {0x8F, "", 0x95, "SKAP"},
		{0x9A, "", 0x00, "ZAPC"}, {0xA0, "SK", 0x00, "ZPC"}, {0xFF, letters, 0x65, "APC"},
	})
}

// P6.1: all chips, bytes and old flags, of which AC and CY alone take part.
func TestAllBytes(t *testing.T) {
	for _, chip := range chips {
		for _, old := range allFlags() {
			for a := range 256 {
				wantR, want := model(chip == api.Chip8085, a, old.AC, old.CY)
				if r, f := decimal.Daa(chip, byte(a), old); r != wantR || f != want {
					t.Fatalf("Daa(%d, %#02x, %+v) = %#02x, %+v, want %#02x, %+v", chip, a, old, r, f, wantR, want)
				}
			}
		}
	}
}

// digits returns the byte of the last two decimal digits of n.
func digits(n int) byte {
	return byte(n/10%10*16 + n%10)
}

// P6.2: all pairs of numbers of two digits, with and without a carry, which takes part in Adc alone.
func TestDaaAfterSums(t *testing.T) {
	for _, chip := range chips {
		for n := range 100 * 100 * 4 {
			a, b, carry, op := n/400, n/4%100, n&1, api.Add
			total := a + b
			if n&2 > 0 {
				op = api.Adc
				total += carry
			}
			r, f := alu.Do(chip, op, digits(a), digits(b), api.Flags{CY: carry > 0})
			if r, f = decimal.Daa(chip, r, f); r != digits(total) || f.CY != (total > 99) {
				t.Fatalf("chip %d: %d + %d (operation %d with the carry %d) is %#02x with CY %v", chip, a, b, op, carry, r, f.CY)
			}
		}
	}
}

// P6.2: by the carry from each byte to the next one, numbers of four digits are added.
func TestSumsOfFourDigits(t *testing.T) {
	for _, x := range [][2]int{{0, 0}, {1, 9999}, {99, 1}, {1234, 5678}, {2985, 4936}, {4999, 5000}, {5000, 5000}, {9901, 99}, {9999, 9999}} {
		for _, chip := range chips {
			low, f := alu.Do(chip, api.Add, digits(x[0]), digits(x[1]), api.Flags{})
			low, f = decimal.Daa(chip, low, f)
			high, f := alu.Do(chip, api.Adc, digits(x[0]/100), digits(x[1]/100), f)
			high, f = decimal.Daa(chip, high, f)
			total := x[0] + x[1]
			if low != digits(total) || high != digits(total/100) || f.CY != (total > 9999) {
				t.Errorf("chip %d: %d + %d is %#02x, %#02x with CY %v", chip, x[0], x[1], high, low, f.CY)
			}
		}
	}
}

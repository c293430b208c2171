package alu_test

import (
	"math"
	"strings"
	"testing"

	"tstate/alu"
	"tstate/api"
)

// others are numbers that are not api.Chip8085, so that they count as the 8080.
var others = []int{api.Chip8080, 0, 3, 7, -1, -2, api.Chip8085 + 256, math.MaxInt, math.MinInt, math.MinInt + api.Chip8085}

// letters names the flags one by one: A is AC, C is CY.
const letters = "SZKAPVC"

// set returns the flags whose letters occur.
func set(s string) api.Flags {
	has := func(letter string) bool { return strings.Contains(s, letter) }
	return api.Flags{S: has("S"), Z: has("Z"), K: has("K"), AC: has("A"), P: has("P"), V: has("V"), CY: has("C")}
}

// forAllBytes calls f with all pairs of bytes, with and without a carry.
func forAllBytes(f func(a, b byte, carry bool)) {
	for n := range 1 << 17 {
		f(byte(n>>9), byte(n>>1), n&1 == 1)
	}
}

// model is an operation in whole numbers: sign is 1 for a sum, -1 for a difference and 0 for the logical operations.
type model struct {
	op, sign int
	carry    bool // CY takes part
	logical  func(a, b int) int
}

var models = []model{
	{op: api.Add, sign: 1},
	{op: api.Adc, sign: 1, carry: true},
	{op: api.Sub, sign: -1},
	{op: api.Sbb, sign: -1, carry: true},
	{op: api.Ana, logical: func(a, b int) int { return a & b }},
	{op: api.Xra, logical: func(a, b int) int { return a ^ b }},
	{op: api.Ora, logical: func(a, b int) int { return a | b }},
	{op: api.Cmp, sign: -1},
}

// do returns what the chapter requires, without the packages bits and flags.
func (m model) do(is8085 bool, a, b byte, carry bool) (byte, api.Flags) {
	c := 0
	if m.carry && carry {
		c = m.sign
	}
	apply := func(x, y int) int {
		if m.sign == 0 {
			return m.logical(x, y)
		}
		return x + m.sign*y + c
	}
	full, low, wide := apply(int(a), int(b)), apply(int(a%16), int(b%16)), apply(int(int8(a)), int(int8(b)))
	r := (full + 512) % 256
	f := api.Flags{S: r >= 128, Z: r == 0, P: even(r), CY: full != r}
	switch {
	case m.sign > 0:
		f.AC = low > 15
	case m.sign < 0:
		f.AC = low >= 0
	case m.op == api.Ana:
		f.AC = is8085 || a%16 >= 8 || b%16 >= 8
	}
	if is8085 {
		f.V = wide < -128 || wide > 127
		f.K = 2 <= count(a >= 128, (b >= 128) == (m.sign >= 0), r >= 128)
	}
	if m.op == api.Cmp {
		return a, f
	}
	return byte(r), f
}

func even(n int) bool {
	ones := 0
	for ; n > 0; n /= 2 {
		ones += n % 2
	}
	return ones%2 == 0
}

func count(all ...bool) (n int) {
	for _, b := range all {
		if b {
			n++
		}
	}
	return n
}

type example struct {
	op   int
	a, b byte
	f    string
	r    byte
	want string
}

func check(t *testing.T, chip int, examples []example) {
	t.Helper()
	for _, x := range examples {
		if r, f := alu.Do(chip, x.op, x.a, x.b, set(x.f)); r != x.r || f != set(x.want) {
			t.Errorf("Do(%d, %d, %#02x, %#02x, %q) = %#02x, %+v, want %#02x, %q", chip, x.op, x.a, x.b, x.f, r, f, x.r, x.want)
		}
	}
}

// P3.1
func TestExamplesOf8080(t *testing.T) {
	for _, chip := range others {
		check(t, chip, []example{
			{api.Add, 0x12, 0x34, "", 0x46, ""}, {api.Add, 0x12, 0x34, letters, 0x46, ""},
			{api.Add, 0x0F, 0x01, "C", 0x10, "A"}, {api.Add, 0xFF, 0x01, "", 0x00, "ZAPC"},
			{api.Add, 0x7F, 0x01, "", 0x80, "SA"}, {api.Add, 0x80, 0x80, "", 0x00, "ZPC"},
			{api.Adc, 0x0F, 0x00, "C", 0x10, "A"}, {api.Adc, 0x0F, 0x00, "SZAP", 0x0F, "P"},
			{api.Adc, 0xFF, 0xFF, "C", 0xFF, "SAPC"}, {api.Adc, 0x00, 0xFF, "C", 0x00, "ZAPC"},
			{api.Sub, 0x00, 0x01, "", 0xFF, "SPC"}, {api.Sub, 0x10, 0x01, "C", 0x0F, "P"},
			{api.Sub, 0x05, 0x05, "C", 0x00, "ZAP"}, {api.Sub, 0x80, 0x01, "", 0x7F, ""},
			{api.Sbb, 0x05, 0x05, "C", 0xFF, "SPC"}, {api.Sbb, 0x05, 0x05, "SZAP", 0x00, "ZAP"},
			{api.Sbb, 0x00, 0xFF, "C", 0x00, "ZPC"}, {api.Sbb, 0x05, 0x03, "C", 0x01, "A"},
			{api.Ana, 0xF0, 0x3C, "C", 0x30, "AP"}, {api.Ana, 0xF7, 0x37, "AC", 0x37, ""},
			{api.Ana, 0x08, 0x00, "", 0x00, "ZAP"}, {api.Ana, 0x00, 0x08, "", 0x00, "ZAP"}, {api.Ana, 0x00, 0x00, "AC", 0x00, "ZP"},
			{api.Xra, 0xF0, 0xFF, "AC", 0x0F, "P"}, {api.Xra, 0x80, 0x01, "", 0x81, "SP"},
			{api.Ora, 0xF0, 0x0E, "AC", 0xFE, "S"}, {api.Ora, 0x00, 0x00, "AC", 0x00, "ZP"},
			{api.Cmp, 0x05, 0x06, "C", 0x05, "SPC"}, {api.Cmp, 0x05, 0x05, "C", 0x05, "ZAP"}, {api.Cmp, 0x06, 0x05, "C", 0x06, "A"},
		})
	}
}

// P3.1 and P3.2
func TestExamplesOf8085(t *testing.T) {
	check(t, api.Chip8085, []example{
		{api.Add, 0x7F, 0x01, "", 0x80, "SAV"}, {api.Add, 0x80, 0x80, "", 0x00, "ZKPVC"}, {api.Add, 0xFF, 0xFF, "", 0xFE, "SKAC"},
		{api.Add, 0x12, 0x34, letters, 0x46, ""}, {api.Add, 0x00, 0x80, "", 0x80, "SK"}, {api.Add, 0x80, 0xFF, "", 0x7F, "KVC"},
		{api.Adc, 0x7F, 0x00, "C", 0x80, "SAV"}, {api.Adc, 0x80, 0xFF, "C", 0x80, "SKAC"}, {api.Adc, 0x7F, 0x00, "SZKAPV", 0x7F, ""},
		{api.Sub, 0x00, 0x01, "", 0xFF, "SKPC"}, {api.Sub, 0x80, 0x01, "", 0x7F, "KV"}, {api.Sub, 0x7F, 0xFF, "", 0x80, "SAVC"},
		{api.Sub, 0x05, 0x03, letters, 0x02, "A"}, {api.Sub, 0x00, 0x80, "", 0x80, "SAVC"}, {api.Sub, 0x80, 0x80, "", 0x00, "ZAP"},
		{api.Sbb, 0x80, 0x00, "C", 0x7F, "KV"}, {api.Sbb, 0x80, 0x00, "SZKAPV", 0x80, "SKA"}, {api.Sbb, 0x00, 0xFF, "C", 0x00, "ZPC"},
		{api.Cmp, 0x80, 0x01, "", 0x80, "KV"}, {api.Cmp, 0x05, 0x06, "C", 0x05, "SKPC"}, {api.Cmp, 0x7F, 0xFF, "", 0x7F, "SAVC"},
		{api.Ana, 0x00, 0x00, "VC", 0x00, "ZAP"}, {api.Ana, 0x08, 0x00, "", 0x00, "ZAP"},
		{api.Ana, 0xF0, 0x8F, "", 0x80, "SKA"}, {api.Ana, 0x80, 0x01, "K", 0x00, "ZAP"},
		{api.Xra, 0x80, 0x80, "", 0x00, "ZKP"}, {api.Xra, 0x80, 0x01, "AVC", 0x81, "SKP"}, {api.Xra, 0x01, 0x03, letters, 0x02, ""},
		{api.Ora, 0x80, 0x00, "AVC", 0x80, "SK"}, {api.Ora, 0x00, 0x80, "", 0x80, "SK"}, {api.Ora, 0x00, 0x00, letters, 0x00, "ZP"},
	})
}

// P3.1 and P3.2
func TestAllBytes(t *testing.T) {
	for _, m := range models {
		for _, chip := range []int{api.Chip8080, api.Chip8085} {
			forAllBytes(func(a, b byte, carry bool) {
				r, f := alu.Do(chip, m.op, a, b, api.Flags{CY: carry})
				if wantR, want := m.do(chip == api.Chip8085, a, b, carry); r != wantR || f != want {
					t.Errorf("Do(%d, %d, %#02x, %#02x, %v) = %#02x, %+v, want %#02x, %+v", chip, m.op, a, b, carry, r, f, wantR, want)
				}
			})
		}
	}
}

// P3.1: of the old flags CY alone takes part.
func TestOtherFlagsDoNotCount(t *testing.T) {
	edges := []byte{0x00, 0x01, 0x08, 0x0F, 0x10, 0x7F, 0x80, 0x81, 0xFF}
	for n := range 128 {
		f := api.Flags{S: n&1 > 0, Z: n&2 > 0, K: n&4 > 0, AC: n&8 > 0, P: n&16 > 0, V: n&32 > 0, CY: n&64 > 0}
		for _, m := range models {
			for _, chip := range []int{api.Chip8080, api.Chip8085} {
				for _, a := range edges {
					for _, b := range edges {
						wantR, want := m.do(chip == api.Chip8085, a, b, f.CY)
						if r, got := alu.Do(chip, m.op, a, b, f); r != wantR || got != want {
							t.Errorf("Do(%d, %d, %#02x, %#02x, %+v) = %#02x, %+v", chip, m.op, a, b, f, r, got)
						}
					}
				}
			}
		}
	}
}

// P3.1: the lowest three bits are the operation.
func TestNumbersOfOperations(t *testing.T) {
	for _, base := range []int{8, 16, 64, 256, 1 << 32, math.MaxInt - 7, -8, -16, -256, -1 << 32, math.MinInt} {
		for _, m := range models {
			for _, chip := range []int{api.Chip8080, api.Chip8085} {
				for _, carry := range []bool{false, true} {
					wantR, want := m.do(chip == api.Chip8085, 0x8C, 0x5A, carry)
					if r, f := alu.Do(chip, base+m.op, 0x8C, 0x5A, api.Flags{CY: carry}); r != wantR || f != want {
						t.Errorf("Do(%d, %d, ..) = %#02x, %+v, want %#02x, %+v", chip, base+m.op, r, f, wantR, want)
					}
				}
			}
		}
	}
	check(t, api.Chip8085, []example{
		{-1, 0x05, 0x06, "", 0x05, "SKPC"}, {-8, 0x05, 0x06, "C", 0x0B, ""}, {math.MaxInt, 0x05, 0x06, "", 0x05, "SKPC"},
		{math.MinInt, 0x05, 0x06, "C", 0x0B, ""}, {-2, 0x05, 0x06, "C", 0x07, ""},
	})
}

// P3.2: a number that is not api.Chip8085 is the 8080.
func TestOtherChips(t *testing.T) {
	for _, chip := range others {
		for _, m := range models {
			forAllBytes(func(a, b byte, carry bool) {
				if a%17 > 0 && b%15 > 0 {
					return
				}
				r, f := alu.Do(chip, m.op, a, b, api.Flags{K: true, V: true, CY: carry})
				if wantR, want := m.do(false, a, b, carry); r != wantR || f != want {
					t.Errorf("Do(%d, %d, %#02x, %#02x, %v) = %#02x, %+v", chip, m.op, a, b, carry, r, f)
				}
			})
		}
	}
}

// P3.3
func TestCmpSetsTheFlagsOfSub(t *testing.T) {
	for _, chip := range []int{api.Chip8080, api.Chip8085} {
		forAllBytes(func(a, b byte, carry bool) {
			_, want := alu.Do(chip, api.Sub, a, b, api.Flags{CY: carry})
			if r, f := alu.Do(chip, api.Cmp, a, b, api.Flags{CY: carry}); r != a || f != want {
				t.Errorf("chip %d: Cmp of %#02x and %#02x is %#02x, %+v", chip, a, b, r, f)
			}
		})
	}
}

// twice applies one operation to the low bytes of two words and another one to the high bytes, with the carry of the first.
func twice(chip, first, second int, x, y uint16) (uint16, bool) {
	low, f := alu.Do(chip, first, byte(x), byte(y), api.Flags{CY: true})
	high, f := alu.Do(chip, second, byte(x>>8), byte(y>>8), f)
	return uint16(high)<<8 | uint16(low), f.CY
}

// P3.3
func TestNumbersOfTwoBytes(t *testing.T) {
	var words []uint16
	for n := range 256 {
		words = append(words, uint16(n), uint16(n)<<8, uint16(n)*257, uint16(n)*40503)
	}
	for _, chip := range []int{api.Chip8080, api.Chip8085} {
		for _, x := range words {
			for _, y := range words {
				if r, carry := twice(chip, api.Add, api.Adc, x, y); r != x+y || carry != (int(x)+int(y) > 65535) {
					t.Errorf("chip %d: %#04x + %#04x = %#04x, %v", chip, x, y, r, carry)
				}
				if r, borrow := twice(chip, api.Sub, api.Sbb, x, y); r != x-y || borrow != (x < y) {
					t.Errorf("chip %d: %#04x - %#04x = %#04x, %v", chip, x, y, r, borrow)
				}
			}
		}
	}
}

// P3.3
func TestXraOfAByteWithItself(t *testing.T) {
	for n := range 256 {
		a := byte(n)
		for _, chip := range []int{api.Chip8080, api.Chip8085} {
			want := set("ZP")
			want.K = chip == api.Chip8085 && a >= 128
			if r, f := alu.Do(chip, api.Xra, a, a, set(letters)); r != 0 || f != want {
				t.Errorf("chip %d: Xra of %#02x with itself is %#02x, %+v", chip, a, r, f)
			}
		}
	}
}

package rotate_test

import (
	"math"
	"testing"

	"tstate/rotate"
)

const (
	rlc = 0
	rrc = 1
	ral = 2
	rar = 3
)

var names = [4]string{"RLC", "RRC", "RAL", "RAR"}

// numbers are numbers of operations for each of their lowest two bits: the same ones, others, and the ends of int.
var numbers = [4][]int{
	{0, 4, 8, 256, -4, -256, math.MinInt, math.MaxInt - 3},
	{1, 5, 9, 257, -3, -255, math.MinInt + 1, math.MaxInt - 2},
	{2, 6, 10, 258, -2, -254, math.MinInt + 2, math.MaxInt - 1},
	{3, 7, 11, 259, -1, -253, math.MinInt + 3, math.MaxInt},
}

var both = []bool{false, true}

// bits are the bits of a number, the lowest one first.
type bits []bool

func bitsOf(v, size int) (all bits) {
	for range size {
		all = append(all, v%2 == 1)
		v /= 2
	}
	return all
}

func (b bits) number() (v int) {
	for i := len(b) - 1; i >= 0; i-- {
		v *= 2
		if b[i] {
			v++
		}
	}
	return v
}

// movedUp returns b with every bit one place up and in as the lowest one, and the bit that has moved out.
func (b bits) movedUp(in bool) (bits, bool) {
	last := len(b) - 1
	return append(bits{in}, b[:last]...), b[last]
}

// movedDown returns b with every bit one place down and in as the highest one, and the bit that has moved out.
func (b bits) movedDown(in bool) (bits, bool) {
	return append(append(bits{}, b[1:]...), in), b[0]
}

// model returns what P5.1 requires, by lists of bits.
func model(op, a int, carry bool) (byte, bool) {
	b := bitsOf(a, 8)
	var r bits
	var out bool
	switch op {
	case rlc:
		r, out = b.movedUp(b[7])
	case rrc:
		r, out = b.movedDown(b[0])
	case ral:
		r, out = b.movedUp(carry)
	case rar:
		r, out = b.movedDown(carry)
	}
	return byte(r.number()), out
}

type byteExample struct {
	op    int
	a     byte
	carry bool
	r     byte
	out   bool
}

// P5.1
func TestByte(t *testing.T) {
	for _, x := range []byteExample{
		{rlc, 0x81, false, 0x03, true}, {rlc, 0x81, true, 0x03, true}, {rlc, 0x40, false, 0x80, false}, {rlc, 0x40, true, 0x80, false},
		{rlc, 0x80, false, 0x01, true}, {rlc, 0x00, true, 0x00, false}, {rlc, 0xFF, false, 0xFF, true}, {rlc, 0xC5, false, 0x8B, true},
		{rrc, 0x81, false, 0xC0, true}, {rrc, 0x81, true, 0xC0, true}, {rrc, 0x02, false, 0x01, false}, {rrc, 0x02, true, 0x01, false},
		{rrc, 0x01, false, 0x80, true}, {rrc, 0x00, true, 0x00, false}, {rrc, 0xFF, false, 0xFF, true}, {rrc, 0xC5, false, 0xE2, true},
		{ral, 0x81, false, 0x02, true}, {ral, 0x81, true, 0x03, true}, {ral, 0x40, false, 0x80, false}, {ral, 0x40, true, 0x81, false},
		{ral, 0x80, false, 0x00, true}, {ral, 0x00, true, 0x01, false}, {ral, 0xFF, false, 0xFE, true}, {ral, 0xC5, true, 0x8B, true},
		{rar, 0x01, false, 0x00, true}, {rar, 0x81, true, 0xC0, true}, {rar, 0x02, false, 0x01, false}, {rar, 0x02, true, 0x81, false},
		{rar, 0x81, false, 0x40, true}, {rar, 0x00, true, 0x80, false}, {rar, 0xFF, false, 0x7F, true}, {rar, 0xC5, true, 0xE2, true},
	} {
		if r, out := rotate.Byte(x.op, x.a, x.carry); r != x.r || out != x.out {
			t.Errorf("%s of %#02x with %v is %#02x, %v, want %#02x, %v", names[x.op], x.a, x.carry, r, out, x.r, x.out)
		}
	}
}

// P5.1: all bytes and carries, also for numbers of operations that are not from 0 to 3.
func TestAllBytes(t *testing.T) {
	for op := range numbers {
		for _, number := range numbers[op] {
			for a := range 256 {
				for _, carry := range both {
					wantR, want := model(op, a, carry)
					if r, out := rotate.Byte(number, byte(a), carry); r != wantR || out != want {
						t.Fatalf("Byte(%d, %#02x, %v) = %#02x, %v, want %#02x, %v", number, a, carry, r, out, wantR, want)
					}
				}
			}
		}
	}
}

// P5.2
func TestArhl(t *testing.T) {
	for _, x := range []struct {
		v, r  uint16
		carry bool
	}{
		{0x8001, 0xC000, true}, {0x8000, 0xC000, false}, {0x4000, 0x2000, false}, {0x0000, 0x0000, false}, {0x0001, 0x0000, true},
		{0x0002, 0x0001, false}, {0x0100, 0x0080, false}, {0x7FFF, 0x3FFF, true}, {0xFFFF, 0xFFFF, true}, {0xFFFE, 0xFFFF, false},
		{0x1235, 0x091A, true}, {0xBEEE, 0xDF77, false},
	} {
		if r, carry := rotate.Arhl(x.v); r != x.r || carry != x.carry {
			t.Errorf("Arhl(%#04x) = %#04x, %v, want %#04x, %v", x.v, r, carry, x.r, x.carry)
		}
	}
}

// P5.2: all words.
func TestArhlOfAllWords(t *testing.T) {
	for v := range 65536 {
		b := bitsOf(v, 16)
		moved, want := b.movedDown(b[15])
		if r, carry := rotate.Arhl(uint16(v)); int(r) != moved.number() || carry != want {
			t.Fatalf("Arhl(%#04x) = %#04x, %v, want %#04x, %v", v, r, carry, moved.number(), want)
		}
	}
}

// P5.3
func TestRdel(t *testing.T) {
	for _, x := range []struct {
		v         uint16
		carry     bool
		r         uint16
		out, over bool
	}{
		{0x0000, false, 0x0000, false, false}, {0x0000, true, 0x0001, false, false}, {0x0001, false, 0x0002, false, false},
		{0x0080, false, 0x0100, false, false}, {0x0080, true, 0x0101, false, false}, {0x3FFF, true, 0x7FFF, false, false},
		{0x4000, false, 0x8000, false, true}, {0x4000, true, 0x8001, false, true}, {0x7FFF, true, 0xFFFF, false, true},
		{0x8000, false, 0x0000, true, true}, {0x8000, true, 0x0001, true, true}, {0xBFFF, false, 0x7FFE, true, true},
		{0xC000, false, 0x8000, true, false}, {0xC000, true, 0x8001, true, false}, {0xFFFF, true, 0xFFFF, true, false},
		{0x1234, false, 0x2468, false, false}, {0xFEDC, true, 0xFDB9, true, false},
	} {
		if r, out, over := rotate.Rdel(x.v, x.carry); r != x.r || out != x.out || over != x.over {
			t.Errorf("Rdel(%#04x, %v) = %#04x, %v, %v, want %#04x, %v, %v", x.v, x.carry, r, out, over, x.r, x.out, x.over)
		}
	}
}

// P5.3: all words and carries.
func TestRdelOfAllWords(t *testing.T) {
	for v := range 65536 {
		for _, carry := range both {
			b := bitsOf(v, 16)
			moved, wantOut := b.movedUp(carry)
			wantOver := moved[15] != b[15]
			if r, out, over := rotate.Rdel(uint16(v), carry); int(r) != moved.number() || out != wantOut || over != wantOver {
				t.Fatalf("Rdel(%#04x, %v) = %#04x, %v, %v, want %#04x, %v, %v", v, carry, r, out, over, moved.number(), wantOut, wantOver)
			}
		}
	}
}

// P5.4: RLC and RRC undo each other, whatever the carries are; RAL and RAR do with the carry that the other one leaves.
func TestRotationsUndoEachOther(t *testing.T) {
	for a := range 256 {
		for _, carry := range both {
			for _, pair := range [][2]int{{rlc, rrc}, {rrc, rlc}} {
				r, _ := rotate.Byte(pair[0], byte(a), carry)
				for _, between := range both {
					if back, _ := rotate.Byte(pair[1], r, between); back != byte(a) {
						t.Errorf("%s after %s of %#02x with %v is %#02x", names[pair[1]], names[pair[0]], a, carry, back)
					}
				}
			}
			for _, pair := range [][2]int{{ral, rar}, {rar, ral}} {
				r, out := rotate.Byte(pair[0], byte(a), carry)
				if back, again := rotate.Byte(pair[1], r, out); back != byte(a) || again != carry {
					t.Errorf("%s after %s of %#02x with %v is %#02x with %v", names[pair[1]], names[pair[0]], a, carry, back, again)
				}
			}
		}
	}
}

// repeated returns the result of times rotations in a row, each with the carry that the one before it leaves.
func repeated(times, op int, a byte, carry bool) (byte, bool) {
	for range times {
		a, carry = rotate.Byte(op, a, carry)
	}
	return a, carry
}

// P5.4: the byte alone after eight times RLC (its carry is bit 0 by then), the byte and the carry after nine times RAL.
func TestRepeatedRotationsOfBytes(t *testing.T) {
	for a := range 256 {
		for _, carry := range both {
			if r, _ := repeated(8, rlc, byte(a), carry); r != byte(a) {
				t.Errorf("eight times RLC of %#02x with %v is %#02x", a, carry, r)
			}
			if r, out := repeated(9, ral, byte(a), carry); r != byte(a) || out != carry {
				t.Errorf("nine times RAL of %#02x with %v is %#02x with %v", a, carry, r, out)
			}
		}
	}
}

// P5.4
func TestSeventeenTimesRdel(t *testing.T) {
	for v := range 65536 {
		for _, carry := range both {
			r, out := uint16(v), carry
			for range 17 {
				r, out, _ = rotate.Rdel(r, out)
			}
			if r != uint16(v) || out != carry {
				t.Fatalf("seventeen times Rdel of %#04x with %v is %#04x with %v", v, carry, r, out)
			}
		}
	}
}

// P5.4
func TestArhlHalvesSignedNumbers(t *testing.T) {
	for n := -32768; n <= 32767; n++ {
		want := int(math.Floor(float64(n) / 2))
		if r, carry := rotate.Arhl(uint16(n)); int(int16(r)) != want || carry != (n != 2*want) {
			t.Fatalf("Arhl of %d is %d with %v, want %d", n, int16(r), carry, want)
		}
	}
}

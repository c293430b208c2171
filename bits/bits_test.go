package bits_test

import (
	"testing"

	"tstate/bits"
)

// result holds what Sum and Difference return.
type result struct {
	r               byte
	out, half, over bool
}

type operation func(a, b byte, c bool) (byte, bool, bool, bool)

func apply(f operation, a, b byte, c bool) result {
	r, out, half, over := f(a, b, c)
	return result{r, out, half, over}
}

// forAll calls f with all arguments that Sum and Difference can have.
func forAll(f func(a, b byte, c bool)) {
	for n := range 1 << 17 {
		f(byte(n>>9), byte(n>>1), n&1 == 1)
	}
}

// ripple adds or subtracts bit by bit, so that it shares no formula with the package: a bit of the result is 1 if an odd
// number of the three bits is; a sum carries if at least two of them are 1, and a difference borrows if the bit of a is
// less than the two others. A signed overflow is a carry into bit 7 that differs from the one out of it.
func ripple(a, b byte, c, subtract bool) result {
	var w result
	for i := range 8 {
		x, y, in := int(a>>i&1), int(b>>i&1), 0
		if c {
			in = 1
		}
		w.r |= byte((x+y+in)%2) << i
		next := x+y+in >= 2
		if subtract {
			next = x < y+in
		}
		if i == 3 {
			w.half = next != subtract
		}
		w.over = next != c
		c = next
	}
	w.out = c
	return w
}

// P1.1
func TestParityOfAllBytes(t *testing.T) {
	for n := range 256 {
		even := true
		for rest := n; rest > 0; rest /= 2 {
			even = even != (rest%2 == 1)
		}
		if got := bits.Parity(byte(n)); got != even {
			t.Errorf("Parity(%#02x) = %v", n, got)
		}
	}
}

// P1.1
func TestParityExamples(t *testing.T) {
	for _, x := range []struct {
		b    byte
		want bool
	}{{0x00, true}, {0x01, false}, {0x80, false}, {0x81, true}, {0x10, false}, {0x7F, false}, {0xFE, false}, {0xFF, true}, {0xA5, true}, {0x07, false}} {
		if got := bits.Parity(x.b); got != x.want {
			t.Errorf("Parity(%#02x) = %v", x.b, got)
		}
	}
}

// P1.1
func TestMajority(t *testing.T) {
	for _, x := range []struct{ a, b, c, want bool }{
		{false, false, false, false}, {false, false, true, false}, {false, true, false, false}, {true, false, false, false},
		{false, true, true, true}, {true, false, true, true}, {true, true, false, true}, {true, true, true, true},
	} {
		if got := bits.Majority(x.a, x.b, x.c); got != x.want {
			t.Errorf("Majority(%v, %v, %v) = %v", x.a, x.b, x.c, got)
		}
	}
}

// P1.1
func TestJoinOfAllBytes(t *testing.T) {
	for n := range 1 << 16 {
		if got := bits.Join(byte(n/256), byte(n%256)); int(got) != n {
			t.Errorf("Join(%#02x, %#02x) = %#04x", n/256, n%256, got)
		}
	}
}

// P1.2
func TestSumExamples(t *testing.T) {
	for _, x := range []struct {
		a, b byte
		c    bool
		want result
	}{
		{0x0F, 0x01, false, result{0x10, false, true, false}},
		{0x00, 0x00, false, result{0x00, false, false, false}},
		{0x00, 0x00, true, result{0x01, false, false, false}},
		{0x12, 0x34, false, result{0x46, false, false, false}},
		{0x0F, 0x00, true, result{0x10, false, true, false}},
		{0x08, 0x07, false, result{0x0F, false, false, false}},
		{0x7F, 0x00, true, result{0x80, false, true, true}},
		{0x7F, 0x80, false, result{0xFF, false, false, false}},
		{0x7F, 0x80, true, result{0x00, true, true, false}},
		{0xF0, 0x10, false, result{0x00, true, false, false}},
		{0xFF, 0x00, false, result{0xFF, false, false, false}},
		{0xFF, 0x00, true, result{0x00, true, true, false}},
		{0x80, 0x80, false, result{0x00, true, false, true}},
		{0x80, 0xFF, false, result{0x7F, true, false, true}},
		{0x80, 0xFF, true, result{0x80, true, true, false}},
		{0xFF, 0xFF, true, result{0xFF, true, true, false}},
	} {
		if got := apply(bits.Sum, x.a, x.b, x.c); got != x.want {
			t.Errorf("Sum(%#02x, %#02x, %v) = %+v", x.a, x.b, x.c, got)
		}
	}
}

// P1.2
func TestSumOfAllBytes(t *testing.T) {
	forAll(func(a, b byte, c bool) {
		if got, want := apply(bits.Sum, a, b, c), ripple(a, b, c, false); got != want {
			t.Errorf("Sum(%#02x, %#02x, %v) = %+v, want %+v", a, b, c, got, want)
		}
	})
}

// P1.3
func TestDifferenceExamples(t *testing.T) {
	for _, x := range []struct {
		a, b byte
		c    bool
		want result
	}{
		{0x00, 0x01, false, result{0xFF, true, false, false}},
		{0x80, 0x01, false, result{0x7F, false, false, true}},
		{0x00, 0x00, false, result{0x00, false, true, false}},
		{0x00, 0x00, true, result{0xFF, true, false, false}},
		{0x46, 0x34, false, result{0x12, false, true, false}},
		{0x46, 0x34, true, result{0x11, false, true, false}},
		{0x44, 0x34, true, result{0x0F, false, false, false}},
		{0x10, 0x20, false, result{0xF0, true, true, false}},
		{0x80, 0x00, true, result{0x7F, false, false, true}},
		{0x7F, 0xFF, false, result{0x80, true, true, true}},
		{0x7F, 0xFF, true, result{0x7F, true, false, false}},
		{0x00, 0x80, false, result{0x80, true, true, true}},
		{0x00, 0x80, true, result{0x7F, true, false, false}},
		{0x00, 0xFF, true, result{0x00, true, false, false}},
		{0xFF, 0xFF, false, result{0x00, false, true, false}},
		{0xFF, 0xFF, true, result{0xFF, true, false, false}},
	} {
		if got := apply(bits.Difference, x.a, x.b, x.c); got != x.want {
			t.Errorf("Difference(%#02x, %#02x, %v) = %+v", x.a, x.b, x.c, got)
		}
	}
}

// P1.3
func TestDifferenceOfAllBytes(t *testing.T) {
	forAll(func(a, b byte, c bool) {
		if got, want := apply(bits.Difference, a, b, c), ripple(a, b, c, true); got != want {
			t.Errorf("Difference(%#02x, %#02x, %v) = %+v, want %+v", a, b, c, got, want)
		}
	})
}

// P1.4
func TestDifferenceIsSumOfComplement(t *testing.T) {
	forAll(func(a, b byte, c bool) {
		want := apply(bits.Sum, a, 255-b, !c)
		want.out = !want.out
		if got := apply(bits.Difference, a, b, c); got != want {
			t.Errorf("Difference(%#02x, %#02x, %v) = %+v, want %+v", a, b, c, got, want)
		}
	})
}

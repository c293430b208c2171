package priority_test

import (
	"math"
	"testing"

	"tstate/priority"
)

const none = -1

// numbers are numbers of lines for each of their lowest three bits: the same ones, others, and the ends of int.
var numbers = [8][]int{
	{0, 8, 16, 256, -8, -256, math.MinInt, math.MaxInt - 7},
	{1, 9, 17, 257, -7, -255, math.MinInt + 1, math.MaxInt - 6},
	{2, 10, 18, 258, -6, -254, math.MinInt + 2, math.MaxInt - 5},
	{3, 11, 19, 259, -5, -253, math.MinInt + 3, math.MaxInt - 4},
	{4, 12, 20, 260, -4, -252, math.MinInt + 4, math.MaxInt - 3},
	{5, 13, 21, 261, -3, -251, math.MinInt + 5, math.MaxInt - 2},
	{6, 14, 22, 262, -2, -250, math.MinInt + 6, math.MaxInt - 1},
	{7, 15, 23, 263, -1, -249, math.MinInt + 7, math.MaxInt},
}

var both = []bool{false, true}

// order returns the lines from the highest priority to the lowest one.
func order(lowest int) (lines []int) {
	for line := lowest + 1; line < 8; line++ {
		lines = append(lines, line)
	}
	for line := range lowest + 1 {
		lines = append(lines, line)
	}
	return lines
}

func has(set byte, line int) bool { return set>>line&1 == 1 }

// firstOf returns the first line of an order whose bit is set in set.
func firstOf(set byte, lines []int) int {
	for _, line := range lines {
		if has(set, line) {
			return line
		}
	}
	return none
}

// served is a model of Pick: from the highest priority on, a line in service ends the search, and a request is found.
func served(irr, imr, isr byte, lines []int, special bool) int {
	for _, line := range lines {
		masked := has(imr, line)
		if has(isr, line) && !(special && masked) {
			return none
		}
		if has(irr, line) && !masked {
			return line
		}
	}
	return none
}

// P21.1
func TestRank(t *testing.T) {
	for _, x := range []struct{ line, lowest, want int }{
		{0, 7, 0}, {1, 7, 1}, {3, 7, 3}, {7, 7, 7}, {0, 0, 7}, {1, 0, 0}, {7, 0, 6}, {4, 3, 0}, {3, 3, 7}, {2, 3, 6}, {7, 6, 0}, {6, 6, 7}, {0, 6, 1},
		{8, 7, 0}, {-1, 7, 7}, {5, -1, 5}, {0, 12, 3}, {-8, -8, 7}, {256, 255, 0},
		{math.MinInt, 7, 0}, {math.MaxInt, 7, 7}, {0, math.MinInt, 7}, {0, math.MaxInt, 0},
		{math.MinInt, math.MaxInt, 0}, {math.MaxInt, math.MinInt, 6}, {math.MinInt, math.MinInt, 7}, {math.MaxInt, math.MaxInt, 7},
	} {
		if got := priority.Rank(x.line, x.lowest); got != x.want {
			t.Errorf("Rank(%d, %d) = %d, want %d", x.line, x.lowest, got, x.want)
		}
	}
}

// P21.1: all lines, also those of which more than the lowest three bits are given: the rank is the place in the order.
func TestRankOfAllLines(t *testing.T) {
	for low := range 8 {
		for want, line := range order(low) {
			for _, lowest := range numbers[low] {
				for _, number := range numbers[line] {
					if got := priority.Rank(number, lowest); got != want {
						t.Errorf("Rank(%d, %d) = %d, want %d", number, lowest, got, want)
					}
				}
			}
		}
	}
}

// P21.2
func TestHighest(t *testing.T) {
	for _, x := range []struct {
		set          byte
		lowest, want int
	}{
		{0x00, 7, none}, {0x00, 0, none}, {0x00, 3, none}, {0x00, -1, none}, {0xFF, 7, 0}, {0xFF, 0, 1}, {0xFF, 3, 4}, {0xFF, 6, 7},
		{0x01, 7, 0}, {0x01, 0, 0}, {0x80, 7, 7}, {0x80, 0, 7}, {0x81, 7, 0}, {0x81, 0, 7}, {0x81, 6, 7}, {0x30, 7, 4}, {0x30, 4, 5}, {0x30, 5, 4},
		{0x11, 3, 4}, {0x11, 4, 0}, {0x11, 11, 4}, {0x11, -1, 0}, {0x11, -5, 4}, {0x0F, 2, 3}, {0x0F, 3, 0},
		{0x82, math.MaxInt, 1}, {0x82, math.MaxInt - 1, 7}, {0x82, math.MinInt, 1}, {0x82, math.MinInt + 1, 7},
	} {
		if got := priority.Highest(x.set, x.lowest); got != x.want {
			t.Errorf("Highest(%#02x, %d) = %d, want %d", x.set, x.lowest, got, x.want)
		}
	}
}

// P21.2: all sets.
func TestHighestOfAllSets(t *testing.T) {
	for low := range 8 {
		lines := order(low)
		for set := range 256 {
			want := firstOf(byte(set), lines)
			for _, lowest := range numbers[low] {
				if got := priority.Highest(byte(set), lowest); got != want {
					t.Errorf("Highest(%#02x, %d) = %d, want %d", set, lowest, got, want)
				}
			}
		}
	}
}

// P21.3
func TestPick(t *testing.T) {
	for _, x := range []struct {
		irr, imr, isr byte
		lowest        int
		special       bool
		want          int
	}{
		{0x30, 0x00, 0x00, 7, false, 4}, {0x30, 0x00, 0x08, 7, false, none}, {0x30, 0x00, 0x20, 7, false, 4},
		{0x00, 0x00, 0x00, 7, false, none}, {0x00, 0x00, 0xFF, 7, false, none}, {0x00, 0xFF, 0xFF, 7, true, none},
		{0x30, 0x00, 0x10, 7, false, none}, {0x30, 0x00, 0x28, 7, false, none}, {0x30, 0x00, 0x60, 7, false, 4}, // in service itself, or with others
		{0x30, 0x10, 0x00, 7, false, 5}, {0x30, 0x30, 0x00, 7, false, none}, {0x30, 0xCF, 0x00, 7, false, 4}, {0xFF, 0xFF, 0x00, 7, false, none},
		{0x20, 0x08, 0x08, 7, false, none}, {0x20, 0x08, 0x08, 7, true, 5}, {0x20, 0x00, 0x08, 7, true, none}, // a masked line in service
		{0x20, 0x08, 0x18, 7, true, none}, {0x20, 0x18, 0x18, 7, true, 5}, {0x28, 0x08, 0x08, 7, true, 5}, {0x20, 0x20, 0x20, 7, true, none},
		{0x20, 0x20, 0x00, 7, true, none}, {0x20, 0x00, 0x20, 7, true, none}, {0x20, 0x80, 0xC0, 7, true, 5},
		{0x01, 0x00, 0x02, 0, false, none}, {0x02, 0x00, 0x01, 0, false, 1}, {0x81, 0x00, 0x40, 6, false, 7}, {0x01, 0x00, 0x80, 6, false, none},
		{0x11, 0x00, 0x00, 3, false, 4}, {0x11, 0x00, 0x00, 11, false, 4}, {0x11, 0x00, 0x00, -1, false, 0}, {0x11, 0x00, 0x02, -5, false, 4},
	} {
		if got := priority.Pick(x.irr, x.imr, x.isr, x.lowest, x.special); got != x.want {
			t.Errorf("Pick(%#02x, %#02x, %#02x, %d, %t) = %d, want %d", x.irr, x.imr, x.isr, x.lowest, x.special, got, x.want)
		}
	}
}

// P21.3: all requests and lines in service, with no mask, with all lines masked, and with masks of one line and of the other ones.
func TestPickOfAllRequests(t *testing.T) {
	masks := []byte{0x00, 0xFF, 0x55, 0x96}
	for line := range 8 {
		masks = append(masks, 1<<line, ^byte(1<<line))
	}
	for lowest := range 8 {
		for _, imr := range masks {
			for irr := range 256 {
				for isr := range 256 {
					checkPick(t, byte(irr), imr, byte(isr), lowest)
				}
			}
		}
	}
}

// P21.3: all masks, with requests and lines in service of every number of lines.
func TestPickOfAllMasks(t *testing.T) {
	some := []byte{0x00, 0x01, 0x08, 0x80, 0x22, 0x81, 0x70, 0x4D, 0xB6, 0xDB, 0xFE, 0x7F, 0xFF}
	for low := range 8 {
		for _, lowest := range numbers[low] {
			for imr := range 256 {
				for _, irr := range some {
					for _, isr := range some {
						checkPick(t, irr, byte(imr), isr, lowest)
					}
				}
			}
		}
	}
}

func checkPick(t *testing.T, irr, imr, isr byte, lowest int) {
	t.Helper()
	lines := orders[lowest&7]
	for _, special := range both {
		if got, want := priority.Pick(irr, imr, isr, lowest, special), served(irr, imr, isr, lines, special); got != want {
			t.Fatalf("Pick(%#02x, %#02x, %#02x, %d, %t) = %d, want %d", irr, imr, isr, lowest, special, got, want)
		}
	}
}

// orders are the orders of the lines for each line with the lowest priority.
var orders = [8][]int{order(0), order(1), order(2), order(3), order(4), order(5), order(6), order(7)}

// P21.4: a line that is masked or not requested is never picked.
func TestMaskedLineIsNeverPicked(t *testing.T) {
	for lowest := range 8 {
		for irr := range 256 {
			for imr := range 256 {
				for _, isr := range []byte{0x00, 0x01, 0x90, 0xFF} {
					for _, special := range both {
						line := priority.Pick(byte(irr), byte(imr), isr, lowest, special)
						if line != none && !has(byte(irr&^imr), line) {
							t.Fatalf("Pick(%#02x, %#02x, %#02x, %d, %t) = %d, which is masked or not requested", irr, imr, isr, lowest, special, line)
						}
					}
				}
			}
		}
	}
}

// P21.4: without rotation, line 0 comes first, whatever else is requested or, with a lower priority, in service.
func TestLineZeroComesFirstWithoutRotation(t *testing.T) {
	for line := range 8 {
		if got := priority.Rank(line, 7); got != line {
			t.Errorf("the rank of line %d is %d", line, got)
		}
	}
	for others := 0; others < 256; others += 2 {
		if got := priority.Highest(byte(others)|1, 7); got != 0 {
			t.Errorf("Highest(%#02x, 7) = %d, want 0", others|1, got)
		}
		for isr := 0; isr < 256; isr += 2 {
			if got := priority.Pick(byte(others)|1, 0, byte(isr), 7, false); got != 0 {
				t.Errorf("Pick(%#02x, 0, %#02x, 7, false) = %d, want 0", others|1, isr, got)
			}
		}
	}
}

// P21.4: one more request never leads to a line with a lower priority, or to none. Any number of them follows from that.
func TestMoreRequestsNeverLowerThePriority(t *testing.T) {
	for lowest := range 8 {
		for irr := range 256 {
			for more := range 8 {
				for _, imr := range []byte{0x00, 0x0F, 0x81, 0x36} {
					for _, isr := range []byte{0x00, 0x01, 0x20, 0x84} {
						for _, special := range both {
							before := priority.Pick(byte(irr), imr, isr, lowest, special)
							after := priority.Pick(byte(irr)|1<<more, imr, isr, lowest, special)
							if before != none && (after == none || priority.Rank(after, lowest) > priority.Rank(before, lowest)) {
								t.Fatalf("with imr %#02x, isr %#02x, lowest %d and special %t, the request %d beside %#02x leads from %d to %d",
									imr, isr, lowest, special, more, irr, before, after)
							}
						}
					}
				}
			}
		}
	}
}

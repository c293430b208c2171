package memory_test

import (
	"bytes"
	"slices"
	"testing"

	"tstate/api"
	"tstate/memory"
)

// An image has the byte of every address.
type image = [1 << 16]byte

// edges are addresses at the ends and in the middle.
var edges = []uint16{0x0000, 0x0001, 0x00FF, 0x0100, 0x7FFF, 0x8000, 0xFFFE, 0xFFFF}

// cells makes a list of pairs of an address and a byte.
func cells(pairs ...int) (l []api.Cell) {
	for i := 0; i < len(pairs); i += 2 {
		l = append(l, api.Cell{At: uint16(pairs[i]), Val: byte(pairs[i+1])})
	}
	return l
}

// imageOf writes the cells of a list one after another, so that the last one with an address counts.
func imageOf(l []api.Cell) *image {
	var m image
	for _, c := range l {
		m[c.At] = c.Val
	}
	return &m
}

// memoryOf returns the memory with the bytes of an image.
func memoryOf(m *image) (l []api.Cell) {
	for at, v := range m {
		if v != 0 {
			l = append(l, api.Cell{At: uint16(at), Val: v})
		}
	}
	return l
}

// few are the addresses that occur in the short lists, and one more.
var few = []uint16{0, 1, 2, 0xFFFF}

// shortLists returns all lists of at most four cells with three addresses and three bytes.
func shortLists() [][]api.Cell {
	all := [][]api.Cell{nil}
	for begin, length := 0, 0; length < 4; length++ {
		end := len(all)
		for _, l := range all[begin:end] {
			for n := range 9 {
				c := api.Cell{At: []uint16{0, 1, 0xFFFF}[n/3], Val: []byte{0, 1, 0xFF}[n%3]}
				all = append(all, append(slices.Clip(l), c))
			}
		}
		begin = end
	}
	return all
}

// memoryOfFew returns the memory with the bytes of a list that has no other addresses than the few.
func memoryOfFew(l []api.Cell) (m []api.Cell) {
	for _, at := range few {
		v := byte(0)
		for _, c := range l {
			if c.At == at {
				v = c.Val
			}
		}
		if v != 0 {
			m = append(m, api.Cell{At: at, Val: v})
		}
	}
	return m
}

// mixed returns a list of n cells in no order, with few addresses more than once and some bytes that are 0.
func mixed(n int) (l []api.Cell) {
	state := uint32(12345)
	for range n {
		state = state*1664525 + 1013904223
		l = append(l, api.Cell{At: uint16(state >> 16), Val: byte(state>>8) & byte(state>>12)})
	}
	return l
}

// full returns the memory in which no address has the byte 0.
func full() (l []api.Cell) {
	for at := range 1 << 16 {
		l = append(l, api.Cell{At: uint16(at), Val: byte(at%255 + 1)})
	}
	return l
}

// longLists returns lists with many cells: in no order, in descending order, with the same addresses again and again,
// and memories.
func longLists() [][]api.Cell {
	descending := full()
	slices.Reverse(descending)
	var repeated []api.Cell
	for n := range 5000 {
		repeated = append(repeated, api.Cell{At: uint16(n % 7 * 0x2001), Val: byte(n % 13)})
	}
	return [][]api.Cell{mixed(40), mixed(1000), mixed(80000), descending, repeated, append(full(), repeated...), full(), memoryOf(imageOf(mixed(3000)))}
}

// checkMemory compares a list, which must be a memory, with another one.
func checkMemory(t *testing.T, what string, got, want []api.Cell) {
	t.Helper()
	if slices.Equal(got, want) {
		return
	}
	if len(got)+len(want) < 30 {
		t.Errorf("%s gives %v, want %v", what, got, want)
		return
	}
	t.Errorf("%s gives %d cells, want %d, with other contents", what, len(got), len(want))
}

// P12.1
func TestValidExamples(t *testing.T) {
	for _, x := range []struct {
		m    []api.Cell
		want bool
	}{
		{nil, true}, {[]api.Cell{}, true}, {cells(0, 1), true}, {cells(0xFFFF, 0xFF), true}, {cells(0, 1, 1, 1), true},
		{cells(0, 1, 0xFFFF, 1), true}, {cells(0x7FFF, 3, 0x8000, 2, 0x8001, 1), true},
		{cells(0, 0), false}, {cells(7, 0), false}, {cells(0xFFFF, 0), false},
		{cells(0, 0, 1, 1), false}, {cells(0, 1, 1, 0), false}, {cells(0, 1, 1, 0, 2, 1), false},
		{cells(5, 1, 5, 1), false}, {cells(5, 1, 5, 2), false}, {cells(5, 1, 4, 1), false}, {cells(0xFFFF, 1, 0, 1), false},
		{cells(0x8000, 1, 0x7FFF, 1), false}, {cells(1, 1, 2, 1, 2, 1), false}, {cells(1, 1, 3, 1, 2, 1), false}, {cells(2, 1, 1, 1, 3, 1), false},
	} {
		if got := memory.Valid(x.m); got != x.want {
			t.Errorf("Valid(%v) = %t, want %t", x.m, got, x.want)
		}
	}
}

// P12.1: a list is a memory exactly if it is the one with its bytes.
func TestValidOfAllShortLists(t *testing.T) {
	for _, l := range shortLists() {
		want := slices.Equal(l, memoryOfFew(l))
		if got := memory.Valid(l); got != want {
			t.Errorf("Valid(%v) = %t, want %t", l, got, want)
		}
	}
}

// P12.1: one wrong cell at each place of a long list.
func TestValidOfLongLists(t *testing.T) {
	if !memory.Valid(full()) {
		t.Error("the memory with all addresses is not valid")
	}
	good := memoryOf(imageOf(mixed(300)))
	if !memory.Valid(good) {
		t.Error("a memory with many cells is not valid")
	}
	for i := range good {
		bad := [][]api.Cell{slices.Clone(good), slices.Insert(slices.Clone(good), i, good[i])}
		bad[0][i].Val = 0
		if i > 0 {
			swapped := slices.Clone(good)
			swapped[i-1], swapped[i] = swapped[i], swapped[i-1]
			bad = append(bad, swapped)
		}
		for n, l := range bad {
			if memory.Valid(l) {
				t.Errorf("a list with the change %d at %d is valid", n, i)
			}
		}
	}
}

// P12.2
func TestGetExamples(t *testing.T) {
	for _, x := range []struct {
		m    []api.Cell
		at   uint16
		want byte
	}{
		{nil, 0, 0}, {[]api.Cell{}, 0xFFFF, 0}, {cells(0, 5), 0, 5}, {cells(0, 5), 1, 0}, {cells(0, 5), 0xFFFF, 0},
		{cells(0, 5, 0xFFFF, 6), 0xFFFF, 6}, {cells(1, 7, 3, 9), 1, 7}, {cells(1, 7, 3, 9), 3, 9}, {cells(1, 7, 3, 9), 2, 0},
		{cells(4, 1, 4, 2), 4, 2}, {cells(4, 1, 4, 0), 4, 0}, {cells(4, 0, 4, 1), 4, 1}, {cells(4, 1, 9, 3, 4, 2), 4, 2},
		{cells(9, 1, 2, 6), 2, 6}, {cells(9, 1, 2, 6), 9, 1}, {cells(0x0104, 7), 4, 0}, {cells(4, 7), 0x0104, 0},
	} {
		if got := memory.Get(x.m, x.at); got != x.want {
			t.Errorf("Get(%v, %#04x) = %d, want %d", x.m, x.at, got, x.want)
		}
	}
}

// P12.2
func TestGetOfAllShortLists(t *testing.T) {
	for _, l := range shortLists() {
		m := imageOf(l)
		for _, at := range append(edges, few...) {
			if got := memory.Get(l, at); got != m[at] {
				t.Errorf("Get(%v, %#04x) = %d, want %d", l, at, got, m[at])
			}
		}
	}
}

// P12.2
func TestGetOfLongLists(t *testing.T) {
	for n, l := range longLists() {
		m := imageOf(l)
		for at := 0; at < 1<<16; at += 97 {
			if got := memory.Get(l, uint16(at)); got != m[at] {
				t.Errorf("Get of the list %d at %#04x is %d, want %d", n, at, got, m[at])
			}
		}
	}
}

// P12.2: all addresses.
func TestGetOfAllAddresses(t *testing.T) {
	for _, l := range [][]api.Cell{mixed(300), memoryOf(imageOf(mixed(300))), nil} {
		for at, want := range imageOf(l) {
			if got := memory.Get(l, uint16(at)); got != want {
				t.Errorf("Get at %#04x is %d, want %d", at, got, want)
			}
		}
	}
}

// P12.3
func TestNormalizeExamples(t *testing.T) {
	for _, x := range []struct{ l, want []api.Cell }{
		{nil, nil}, {[]api.Cell{}, nil}, {cells(5, 0), nil}, {cells(5, 1), cells(5, 1)}, {cells(3, 1, 1, 2), cells(1, 2, 3, 1)},
		{cells(3, 1, 3, 0), nil}, {cells(3, 0, 3, 1), cells(3, 1)}, {cells(3, 1, 3, 2), cells(3, 2)}, {cells(3, 2, 3, 1), cells(3, 1)},
		{cells(0xFFFF, 4, 0, 5, 0xFFFF, 6), cells(0, 5, 0xFFFF, 6)}, {cells(2, 1, 1, 1, 2, 0, 0, 3), cells(0, 3, 1, 1)},
		{cells(1, 1, 2, 0, 3, 3), cells(1, 1, 3, 3)}, {cells(0x8000, 1, 0x7FFF, 2), cells(0x7FFF, 2, 0x8000, 1)},
	} {
		if got := memory.Normalize(x.l); !slices.Equal(got, x.want) {
			t.Errorf("Normalize(%v) = %v, want %v", x.l, got, x.want)
		}
	}
}

// P12.3
func TestNormalizeOfAllShortLists(t *testing.T) {
	for _, l := range shortLists() {
		if got, want := memory.Normalize(l), memoryOfFew(l); !slices.Equal(got, want) {
			t.Errorf("Normalize(%v) = %v, want %v", l, got, want)
		}
	}
}

// P12.3
func TestNormalizeOfLongLists(t *testing.T) {
	for _, l := range longLists() {
		checkMemory(t, "Normalize", memory.Normalize(l), memoryOf(imageOf(l)))
	}
}

// P12.3
func TestPutExamples(t *testing.T) {
	for _, x := range []struct {
		m    []api.Cell
		at   uint16
		v    byte
		want []api.Cell
	}{
		{nil, 5, 1, cells(5, 1)}, {nil, 5, 0, nil}, {nil, 0xFFFF, 0xFF, cells(0xFFFF, 0xFF)}, {cells(5, 1), 5, 0, nil},
		{cells(1, 1, 9, 9), 0, 5, cells(0, 5, 1, 1, 9, 9)}, {cells(1, 1, 9, 9), 5, 5, cells(1, 1, 5, 5, 9, 9)}, {cells(1, 1, 9, 9), 10, 5, cells(1, 1, 9, 9, 10, 5)},
		{cells(1, 1, 9, 9), 1, 2, cells(1, 2, 9, 9)}, {cells(1, 1, 9, 9), 9, 2, cells(1, 1, 9, 2)}, {cells(1, 1, 9, 9), 9, 9, cells(1, 1, 9, 9)},
		{cells(1, 1, 9, 9), 1, 0, cells(9, 9)}, {cells(1, 1, 9, 9), 9, 0, cells(1, 1)}, {cells(1, 1, 9, 9), 5, 0, cells(1, 1, 9, 9)},
		{cells(9, 9, 1, 1), 5, 5, cells(1, 1, 5, 5, 9, 9)}, {cells(9, 9, 1, 1, 9, 0), 5, 5, cells(1, 1, 5, 5)}, {cells(9, 9, 1, 1, 9, 0), 5, 0, cells(1, 1)},
		{cells(3, 1, 3, 2), 3, 4, cells(3, 4)}, {cells(3, 1, 3, 2), 3, 0, nil}, {cells(3, 1, 3, 2), 4, 0, cells(3, 2)}, {cells(2, 0), 2, 3, cells(2, 3)},
	} {
		if got := memory.Put(x.m, x.at, x.v); !slices.Equal(got, x.want) {
			t.Errorf("Put(%v, %#04x, %d) = %v, want %v", x.m, x.at, x.v, got, x.want)
		}
	}
}

// P12.3
func TestPutOfAllShortLists(t *testing.T) {
	for _, l := range shortLists() {
		for _, at := range few {
			for _, v := range []byte{0, 1, 0x80} {
				want := memoryOfFew(append(slices.Clip(l), api.Cell{At: at, Val: v}))
				if got := memory.Put(l, at, v); !slices.Equal(got, want) {
					t.Errorf("Put(%v, %#04x, %d) = %v, want %v", l, at, v, got, want)
				}
			}
		}
	}
}

// P12.3
func TestPutOfLongLists(t *testing.T) {
	for _, l := range longLists() {
		before := imageOf(l)
		for _, at := range []uint16{0, 0x7FFF, 0xFFFF, l[0].At, l[len(l)/2].At} {
			for _, v := range []byte{0, 0xFF} {
				after := *before
				after[at] = v
				checkMemory(t, "Put", memory.Put(l, at, v), memoryOf(&after))
			}
		}
	}
}

// P12.3: many bytes, one after another, of which some are taken away again.
func TestPutsOneAfterAnother(t *testing.T) {
	var m []api.Cell
	var want image
	for _, c := range append(mixed(2000), mixed(500)...) {
		c.At %= 0x0400
		m = memory.Put(m, c.At, c.Val)
		want[c.At] = c.Val
	}
	checkMemory(t, "a row of Puts", m, memoryOf(&want))
}

// P12.3
func TestLoadExamples(t *testing.T) {
	for _, x := range []struct {
		at   uint16
		b    []byte
		want []api.Cell
	}{
		{0xFFFF, []byte{1, 2}, cells(0, 2, 0xFFFF, 1)}, {0, nil, nil}, {0xFFFF, []byte{}, nil}, {5, []byte{0}, nil}, {5, []byte{7}, cells(5, 7)},
		{5, []byte{0, 7, 0}, cells(6, 7)}, {5, []byte{1, 2, 3}, cells(5, 1, 6, 2, 7, 3)}, {0xFFFE, []byte{1, 2}, cells(0xFFFE, 1, 0xFFFF, 2)},
		{0xFFFE, []byte{1, 2, 0, 4}, cells(1, 4, 0xFFFE, 1, 0xFFFF, 2)}, {0, []byte{0xFF, 0, 0xFE}, cells(0, 0xFF, 2, 0xFE)},
		{0x7FFF, []byte{1, 2}, cells(0x7FFF, 1, 0x8000, 2)},
	} {
		if got := memory.Load(x.at, x.b); !slices.Equal(got, x.want) {
			t.Errorf("Load(%#04x, %v) = %v, want %v", x.at, x.b, got, x.want)
		}
	}
}

// P12.3: lengths up to and beyond all addresses, from once to three times round.
func TestLoadOfAllLengths(t *testing.T) {
	b := make([]byte, 3<<16+5)
	for i := range b {
		b[i] = byte(i%251%17*(i>>16*3&7) ^ i%251)
	}
	for _, length := range []int{1, 2, 255, 256, 257, 1000, 1<<16 - 1, 1 << 16, 1<<16 + 1, 1<<16 + 1000, 2<<16 - 1, 2 << 16, 2<<16 + 3, len(b)} {
		for _, at := range append(edges, 0x1234) {
			var m image
			for i, v := range b[:length] {
				m[(int(at)+i)%(1<<16)] = v
			}
			checkMemory(t, "Load", memory.Load(at, b[:length]), memoryOf(&m))
		}
	}
}

// P12.3: a later byte counts even if it is 0.
func TestLoadOfZerosOverOthers(t *testing.T) {
	b := make([]byte, 1<<16+3)
	b[0], b[1], b[2], b[3] = 1, 2, 3, 4
	b[1<<16+1] = 5
	checkMemory(t, "Load", memory.Load(0xFFFE, b), cells(1, 4, 0xFFFF, 5))
}

// P12.4: two memories are equal exactly if all addresses have the same byte in both.
func TestEqualMemories(t *testing.T) {
	var lists [][]api.Cell
	for _, l := range shortLists() {
		if len(l) <= 2 {
			lists = append(lists, l)
		}
	}
	for _, l := range shortLists() {
		for _, k := range lists {
			same := true
			for _, at := range few {
				same = same && memory.Get(l, at) == memory.Get(k, at)
			}
			if got := slices.Equal(memory.Normalize(l), memory.Normalize(k)); got != same {
				t.Errorf("the memories of %v and %v are equal: %t, want %t", l, k, got, same)
			}
			if same && memory.Valid(l) && memory.Valid(k) && !slices.Equal(l, k) {
				t.Errorf("%v and %v are memories with the same bytes", l, k)
			}
		}
	}
}

// P12.4
func TestGetAfterPut(t *testing.T) {
	lists := append(shortLists(), mixed(100), memoryOf(imageOf(mixed(100))))
	for _, l := range lists {
		for _, at := range []uint16{0, 1, 2, 0xFFFF, 0x8000} {
			for _, v := range []byte{0, 1, 0xFF} {
				m := memory.Put(l, at, v)
				if got := memory.Get(m, at); got != v || !memory.Valid(m) {
					t.Errorf("Put(%v, %#04x, %d) gives %v with the byte %d", l, at, v, m, got)
				}
				for _, other := range append(edges, few...) {
					if got, want := memory.Get(m, other), memory.Get(l, other); other != at && got != want {
						t.Errorf("Put(%v, %#04x, %d) changes the byte at %#04x from %d to %d", l, at, v, other, want, got)
					}
				}
			}
		}
	}
}

// P12.4
func TestTwoPuts(t *testing.T) {
	for _, l := range append(shortLists(), mixed(100)) {
		for _, v := range []byte{0, 1, 0xFF} {
			for _, w := range []byte{0, 2} {
				for _, b := range []uint16{0, 2, 0xFFFF} {
					first := memory.Put(memory.Put(l, 1, v), b, w)
					second := memory.Put(memory.Put(l, b, w), 1, v)
					if !slices.Equal(first, second) {
						t.Errorf("%v and %v after Puts of %d to 1 and %d to %#04x, exchanged, to %v", first, second, v, w, b, l)
					}
				}
				if got, want := memory.Put(memory.Put(l, 1, v), 1, w), memory.Put(l, 1, w); !slices.Equal(got, want) {
					t.Errorf("%v after Puts of %d and of %d to 1 to %v, want %v", got, v, w, l, want)
				}
			}
		}
	}
}

// operations are all calls on a list; those that give a memory return it.
func operations() map[string]func(l []api.Cell) []api.Cell {
	put := func(at uint16, v byte) func([]api.Cell) []api.Cell {
		return func(l []api.Cell) []api.Cell { return memory.Put(l, at, v) }
	}
	return map[string]func([]api.Cell) []api.Cell{
		"Normalize": memory.Normalize, "a new cell": put(7, 7), "a last cell": put(0xFFFE, 7), "a first cell": put(0, 7),
		"a changed cell": put(5, 7), "a removed cell": put(5, 0), "no cell": put(6, 0),
		"Valid": func(l []api.Cell) []api.Cell { memory.Valid(l); return nil },
		"Get":   func(l []api.Cell) []api.Cell { memory.Get(l, 5); return nil },
	}
}

// R2: the cells are left as they are, in the spare capacity too, also if the result is changed.
func TestArgumentsAreLeft(t *testing.T) {
	for _, list := range [][]api.Cell{nil, cells(5, 1), cells(1, 1, 5, 2, 9, 3), cells(9, 3, 5, 2, 1, 1), cells(5, 1, 5, 2), cells(5, 0, 8, 1)} {
		whole := append(slices.Clone(list), cells(20, 9, 3, 0, 5, 8)...)
		kept := slices.Clone(whole)
		for name, operation := range operations() {
			got := operation(whole[:len(list)])
			got = got[:cap(got)]
			for i := range got {
				got[i] = api.Cell{At: 0x5555, Val: 0x55}
			}
			if !slices.Equal(whole, kept) {
				t.Fatalf("%s changes the list %v to %v", name, kept, whole)
			}
		}
	}
}

// R2: a result stays as it is if the argument changes.
func TestResultsAreNew(t *testing.T) {
	for name, operation := range operations() {
		l := cells(1, 1, 5, 2, 9, 3)
		got := operation(l)
		kept := slices.Clone(got)
		for i := range l {
			l[i] = api.Cell{At: 0x5555, Val: 0x55}
		}
		if !slices.Equal(got, kept) {
			t.Errorf("%s gives %v, which turns into %v", name, kept, got)
		}
	}
}

// R2
func TestLoadLeavesItsArgument(t *testing.T) {
	b := []byte{1, 0, 2, 3, 4, 5}
	kept := slices.Clone(b)
	memory.Load(0xFFFE, b[:4])
	if !bytes.Equal(b, kept) {
		t.Errorf("Load changes % x to % x", kept, b)
	}
}

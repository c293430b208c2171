package regions_test

import (
	"math"
	"slices"
	"testing"

	"tstate/api"
	"tstate/memory"
	"tstate/regions"
)

// rom and ram make a region.
func rom(from, to uint16, waits int) api.Region {
	return api.Region{From: from, To: to, Waits: waits}
}

func ram(from, to uint16, waits int) api.Region {
	return api.Region{From: from, To: to, RAM: true, Waits: waits}
}

// cells makes a list of pairs of an address and a byte.
func cells(pairs ...int) (l []api.Cell) {
	for i := 0; i < len(pairs); i += 2 {
		l = append(l, api.Cell{At: uint16(pairs[i]), Val: byte(pairs[i+1])})
	}
	return l
}

// example is the memory map of the chapter's example.
func example() []api.Region { return []api.Region{rom(0x0000, 0x0FFF, 0), ram(0x1000, 0x1FFF, 0)} }

// repeated returns a list of n regions that are alike.
func repeated(n int, r api.Region) []api.Region { return slices.Repeat([]api.Region{r}, n) }

// maps returns memory maps, valid and not, with at most 20 regions.
func maps() [][]api.Region {
	var pages, bytes []api.Region
	for n := range 16 {
		pages = append(pages, api.Region{From: uint16(n * 0x1000), To: uint16(n*0x1000 + 0xFFF), RAM: n%3 == 1, Waits: n * 5})
	}
	for n := range 20 {
		at := uint16(n*0x0D79 + 0xFFFE)
		bytes = append(bytes, api.Region{From: at, To: at, RAM: n%2 == 0, Waits: n})
	}
	return [][]api.Region{
		nil, example(), pages, bytes,
		{rom(0x0000, 0xFFFF, 1)}, {ram(0x0000, 0xFFFF, 2)}, {ram(0x0000, 0x0000, 3)}, {ram(0xFFFF, 0xFFFF, 4)},
		{rom(0x0000, 0x7FFF, 5), ram(0x8000, 0xFFFF, 6)}, {ram(0x8000, 0xFFFF, 7), rom(0x0000, 0x7FFF, 8)},
		{rom(0x1000, 0x2FFF, 9), ram(0x2000, 0x3FFF, 10), rom(0x0800, 0x4000, 11), ram(0x0000, 0xFFFF, 12)},
		{ram(0x1000, 0x2FFF, 100), rom(0x2000, 0x3FFF, 0), ram(0x0800, 0x4000, 13)},
		{ram(0x2000, 0x1000, 14)}, {rom(0xFFFF, 0x0000, 15), ram(0x0001, 0x0000, 16), ram(0x0000, 0x8000, 17)},
		{ram(0x0000, 0x0FFF, -1), ram(0x1000, 0x1FFF, 101), rom(0x2000, 0x2FFF, math.MinInt), rom(0x3000, 0x3FFF, math.MaxInt)},
	}
}

// edges returns the addresses at the ends of all regions of a map, those next to them, and a few more.
func edges(l []api.Region) []uint16 {
	all := []uint16{0x0000, 0x0001, 0x1234, 0x7FFF, 0x8000, 0xFFFE, 0xFFFF}
	for _, r := range l {
		all = append(all, r.From-1, r.From, r.From+1, r.To-1, r.To, r.To+1)
	}
	slices.Sort(all)
	return slices.Compact(all)
}

// A view is what a memory map says of all addresses.
type view [1 << 16]struct {
	index int
	found bool
	ram   bool
	waits int
}

// viewOf lays the regions from the last one to the first one over each other, so that the first one counts.
func viewOf(l []api.Region) *view {
	var all view
	for i, r := range slices.Backward(l) {
		for at := int(r.From); at <= int(r.To); at++ {
			spot := &all[at]
			spot.index, spot.found, spot.ram, spot.waits = i, true, r.RAM, r.Waits
			switch {
			case r.Waits > 100:
				spot.waits = 100
			case r.Waits < 0:
				spot.waits = 0
			}
		}
	}
	return &all
}

// P13.1
func TestValidateExamples(t *testing.T) {
	good := ram(0x1000, 0x1FFF, 2)
	for i, x := range []struct {
		l    []api.Region
		want api.Errno
	}{
		{nil, api.OK}, {[]api.Region{}, api.OK}, {example(), api.OK}, {[]api.Region{{}}, api.OK},
		{[]api.Region{rom(0, 0xFFFF, 0)}, api.OK}, {[]api.Region{rom(0xFFFF, 0xFFFF, 0)}, api.OK}, {[]api.Region{ram(5, 5, 0)}, api.OK},
		{[]api.Region{rom(5, 6, 0)}, api.OK}, {[]api.Region{good, good, rom(0, 0xFFFF, 1), good}, api.OK},
		{[]api.Region{rom(6, 5, 0)}, api.ErrArgument}, {[]api.Region{ram(1, 0, 0)}, api.ErrArgument}, {[]api.Region{rom(0xFFFF, 0, 0)}, api.ErrArgument},
		{[]api.Region{ram(0xFFFF, 0xFFFE, 0)}, api.ErrArgument}, {[]api.Region{rom(0x8000, 0x7FFF, 0)}, api.ErrArgument},
		{[]api.Region{good, rom(6, 5, 0)}, api.ErrArgument}, {[]api.Region{rom(6, 5, 0), good}, api.ErrArgument}, {[]api.Region{rom(6, 5, -1)}, api.ErrArgument},
		{[]api.Region{good, good, rom(0, 1, 101)}, api.ErrArgument}, {[]api.Region{ram(0, 1, -1), good, good}, api.ErrArgument},
		{repeated(15, good), api.OK}, {repeated(16, good), api.OK}, {repeated(17, good), api.ErrLimit}, {repeated(1000, good), api.ErrLimit},
		{append(repeated(15, good), rom(6, 5, 0)), api.ErrArgument}, {append(repeated(15, good), ram(0, 1, 101)), api.ErrArgument},
		{append(repeated(16, good), rom(6, 5, 0)), api.ErrLimit}, {append(repeated(16, good), ram(0, 1, -1)), api.ErrLimit},
		{repeated(17, rom(6, 5, 0)), api.ErrLimit}, {repeated(17, ram(0, 1, 101)), api.ErrLimit}, {repeated(16, ram(6, 5, 101)), api.ErrArgument},
	} {
		if got := regions.Validate(x.l); got != x.want {
			t.Errorf("Validate of list %d, %v, = %d, want %d", i, x.l, got, x.want)
		}
	}
}

// P13.1: all numbers of wait states around the allowed ones, at each place of a map.
func TestValidateWaits(t *testing.T) {
	waits := []int{math.MinInt, math.MinInt32, -256, -101, -100, 127, 128, 255, 256, 65536, 65636, math.MaxInt32, 1 << 32, math.MaxInt}
	for n := range 111 {
		waits = append(waits, n-5)
	}
	for _, n := range waits {
		want := api.ErrArgument
		if 0 <= n && n <= 100 {
			want = api.OK
		}
		for place := range 16 {
			l := repeated(16, rom(0, 1, 0))
			l[place].Waits = n
			l[place].RAM = n%2 == 0
			if got := regions.Validate(l); got != want {
				t.Errorf("Validate with %d wait states in region %d = %d, want %d", n, place, got, want)
			}
		}
	}
}

// P13.1: ends in all orders, at each place of a map.
func TestValidateEnds(t *testing.T) {
	words := []uint16{0, 1, 2, 0xFF, 0x100, 0x101, 0x7FFF, 0x8000, 0xFFFE, 0xFFFF}
	for _, from := range words {
		for _, to := range words {
			want := api.OK
			if int(to) < int(from) {
				want = api.ErrArgument
			}
			for place := range 16 {
				l := repeated(16, ram(3, 9, 100))
				l[place].From, l[place].To = from, to
				if got := regions.Validate(l); got != want {
					t.Errorf("Validate with %#04x to %#04x in region %d = %d, want %d", from, to, place, got, want)
				}
			}
		}
	}
}

// P13.2
func TestFindExamples(t *testing.T) {
	overlapping := []api.Region{rom(0x10, 0x1F, 0), ram(0x18, 0x2F, 0), rom(0x00, 0xFF, 0), ram(0x0000, 0xFFFF, 0)}
	late := append(repeated(1000, rom(6, 5, -1)), rom(5, 6, 101))
	for _, x := range []struct {
		l    []api.Region
		at   uint16
		want int
	}{
		{nil, 0, -1}, {nil, 0xFFFF, -1}, {example(), 0, 0}, {example(), 0x0FFF, 0}, {example(), 0x1000, 1}, {example(), 0x1FFF, 1},
		{example(), 0x2000, -1}, {example(), 0xFFFF, -1},
		{overlapping, 0x0F, 2}, {overlapping, 0x10, 0}, {overlapping, 0x18, 0}, {overlapping, 0x1F, 0}, {overlapping, 0x20, 1},
		{overlapping, 0x2F, 1}, {overlapping, 0x30, 2}, {overlapping, 0xFF, 2}, {overlapping, 0x100, 3}, {overlapping, 0xFFFF, 3},
		{late, 4, -1}, {late, 5, 1000}, {late, 6, 1000}, {late, 7, -1},
		{repeated(3, rom(7, 7, 0)), 7, 0}, {repeated(3, rom(7, 7, 0)), 6, -1}, {repeated(3, rom(7, 7, 0)), 8, -1},
	} {
		if got := regions.Find(x.l, x.at); got != x.want {
			t.Errorf("Find(%v, %#04x) = %d, want %d", x.l[:min(len(x.l), 20)], x.at, got, x.want)
		}
	}
}

// P13.2, P13.3: all addresses.
func TestFindAndWaitsOfAllAddresses(t *testing.T) {
	for _, l := range maps() {
		for at, want := range viewOf(l) {
			if !want.found {
				want.index = -1
			}
			if got := regions.Find(l, uint16(at)); got != want.index {
				t.Fatalf("Find(%v, %#04x) = %d, want %d", l, at, got, want.index)
			}
			if got := regions.Waits(l, uint16(at)); got != want.waits {
				t.Fatalf("Waits(%v, %#04x) = %d, want %d", l, at, got, want.waits)
			}
		}
	}
}

// P13.3: the number of the first region is limited; that of a covered region does not count.
func TestWaitsAreLimited(t *testing.T) {
	for _, x := range []struct{ waits, want int }{
		{math.MinInt, 0}, {-256, 0}, {-100, 0}, {-2, 0}, {-1, 0}, {0, 0}, {1, 1}, {2, 2}, {50, 50}, {99, 99}, {100, 100},
		{101, 100}, {102, 100}, {255, 100}, {256, 100}, {1 << 32, 100}, {math.MaxInt, 100},
	} {
		for _, r := range []api.Region{rom(3, 5, x.waits), ram(3, 5, x.waits)} {
			for at, want := range []int{7, 7, 7, x.want, x.want, x.want, 7, 7} {
				l := []api.Region{rom(4, 3, 9), r, ram(0, 6, 7), rom(0, 9, 7)}
				if got := regions.Waits(l, uint16(at)); got != want {
					t.Errorf("Waits(%v, %d) = %d, want %d", l, at, got, want)
				}
			}
		}
	}
	if got := regions.Waits(example(), 0x2000); got != 0 {
		t.Errorf("Waits outside all regions = %d, want 0", got)
	}
	if got := regions.Waits(nil, 0); got != 0 {
		t.Errorf("Waits without regions = %d, want 0", got)
	}
}

// P13.3: the chapter's example, and the byte of a region, which may be 0 or 0xFF.
func TestReadExamples(t *testing.T) {
	m := cells(0x0000, 1, 0x0FFF, 2, 0x1000, 3, 0x1FFF, 0xFF, 0x2000, 4, 0xFFFF, 5)
	for _, x := range []struct {
		l    []api.Region
		at   uint16
		want byte
	}{
		{example(), 0x0000, 1}, {example(), 0x0001, 0}, {example(), 0x0FFF, 2}, {example(), 0x1000, 3}, {example(), 0x1001, 0},
		{example(), 0x1FFF, 0xFF}, {example(), 0x2000, 0xFF}, {example(), 0x2001, 0xFF}, {example(), 0xFFFF, 0xFF},
		{nil, 0x0000, 0xFF}, {nil, 0x1000, 0xFF}, {[]api.Region{rom(1, 0, 0)}, 0x0000, 0xFF}, {[]api.Region{rom(0xFFFF, 0xFFFF, 0)}, 0xFFFF, 5},
		{[]api.Region{rom(0xFFFF, 0xFFFF, 0)}, 0x0000, 0xFF}, {[]api.Region{rom(0, 0xFFFF, -1)}, 0x2000, 4},
	} {
		if got := regions.Read(x.l, m, x.at); got != x.want {
			t.Errorf("Read(%v, %#04x) = %d, want %d", x.l, x.at, got, x.want)
		}
	}
}

// P13.3: of a list that is not a memory, the last cell with the address counts.
func TestReadOfOtherLists(t *testing.T) {
	m := cells(9, 1, 5, 2, 5, 3, 7, 4, 5, 6, 7, 0, 20, 8, 3, 3, 20, 9)
	l := []api.Region{ram(3, 8, 0), rom(9, 9, 0)}
	for at, want := range []byte{0xFF, 0xFF, 0xFF, 3, 0, 6, 0, 0, 0, 1, 0xFF} {
		if got := regions.Read(l, m, uint16(at)); got != want {
			t.Errorf("Read at %d = %d, want %d", at, got, want)
		}
	}
	if got := regions.Read(l, m, 20); got != 0xFF {
		t.Errorf("Read at 20 = %d, want 255", got)
	}
}

// P13.3: the chapter's example, and bytes that add, change and remove a cell.
func TestWriteExamples(t *testing.T) {
	m := cells(0x0000, 1, 0x1000, 3, 0x2000, 4)
	covered := []api.Region{rom(0x1000, 0x1000, 0), ram(0x0000, 0xFFFF, 0)}
	for _, x := range []struct {
		l    []api.Region
		at   uint16
		v    byte
		want []api.Cell
	}{
		{example(), 0x0000, 9, m}, {example(), 0x0000, 0, m}, {example(), 0x0FFF, 9, m}, {example(), 0x2000, 9, m}, {example(), 0x2000, 0, m},
		{example(), 0xFFFF, 9, m}, {nil, 0x1000, 9, m}, {nil, 0x1000, 0, m},
		{example(), 0x1000, 9, cells(0x0000, 1, 0x1000, 9, 0x2000, 4)}, {example(), 0x1000, 0, cells(0x0000, 1, 0x2000, 4)},
		{example(), 0x1001, 9, cells(0x0000, 1, 0x1000, 3, 0x1001, 9, 0x2000, 4)}, {example(), 0x1001, 0, m},
		{example(), 0x1FFF, 0xFF, cells(0x0000, 1, 0x1000, 3, 0x1FFF, 0xFF, 0x2000, 4)},
		{covered, 0x1000, 9, m}, {covered, 0x0000, 9, cells(0x0000, 9, 0x1000, 3, 0x2000, 4)},
		{covered, 0x0FFF, 9, cells(0x0000, 1, 0x0FFF, 9, 0x1000, 3, 0x2000, 4)}, {covered, 0x1001, 9, cells(0x0000, 1, 0x1000, 3, 0x1001, 9, 0x2000, 4)},
		{[]api.Region{ram(0xFFFF, 0x0000, 0)}, 0x0000, 9, m}, {[]api.Region{ram(0xFFFF, 0xFFFF, 101)}, 0xFFFF, 9, cells(0x0000, 1, 0x1000, 3, 0x2000, 4, 0xFFFF, 9)},
	} {
		if got := regions.Write(x.l, m, x.at, x.v); !slices.Equal(got, x.want) {
			t.Errorf("Write(%v, %v, %#04x, %d) = %v, want %v", x.l, m, x.at, x.v, got, x.want)
		}
	}
}

// P13.3: the result is a memory, also if the list is none and nothing is written.
func TestWriteToOtherLists(t *testing.T) {
	l := []api.Region{rom(5, 5, 0), ram(0, 9, 0)}
	for _, x := range []struct {
		m    []api.Cell
		at   uint16
		v    byte
		want []api.Cell
	}{
		{cells(5, 1, 2, 0, 1, 3), 5, 9, cells(1, 3, 5, 1)}, {cells(5, 1, 2, 0, 1, 3), 10, 9, cells(1, 3, 5, 1)}, {cells(5, 1, 2, 0, 1, 3), 2, 9, cells(1, 3, 2, 9, 5, 1)},
		{cells(5, 1, 5, 2), 5, 9, cells(5, 2)}, {cells(5, 1, 5, 0), 5, 9, nil}, {cells(5, 0, 5, 1), 10, 9, cells(5, 1)},
		{cells(4, 1, 3, 2, 4, 5), 4, 9, cells(3, 2, 4, 9)}, {cells(4, 1, 3, 2, 4, 5), 4, 0, cells(3, 2)}, {cells(4, 1, 3, 2, 4, 5), 5, 0, cells(3, 2, 4, 5)},
		{cells(0xFFFF, 0), 0xFFFF, 9, nil}, {cells(0xFFFF, 0), 0, 9, cells(0, 9)}, {nil, 5, 9, nil}, {nil, 10, 9, nil}, {nil, 4, 9, cells(4, 9)}, {nil, 4, 0, nil},
	} {
		if got := regions.Write(l, x.m, x.at, x.v); !slices.Equal(got, x.want) {
			t.Errorf("Write(%v, %#04x, %d) = %v, want %v", x.m, x.at, x.v, got, x.want)
		}
	}
}

// P13.3, P13.4: what was written into RAM is read again; any other write changes no byte.
func TestReadAfterWrite(t *testing.T) {
	for _, l := range maps() {
		all, places := viewOf(l), edges(l)
		for _, m := range [][]api.Cell{nil, cells(0, 1, 0x1000, 2, 0x1FFF, 0x77, 0x8000, 4, 0xFFFF, 5), cells(0x8000, 4, 0x1000, 2, 0x1000, 3, 0, 0)} {
			for _, at := range places {
				for _, v := range []byte{0, 1, 0x77, 0xFF} {
					checkWrite(t, l, all, places, m, at, v)
				}
			}
		}
	}
}

// checkWrite compares the bytes before and after a write.
func checkWrite(t *testing.T, l []api.Region, all *view, places []uint16, m []api.Cell, at uint16, v byte) {
	t.Helper()
	after := regions.Write(l, m, at, v)
	if !memory.Valid(after) {
		t.Errorf("Write(%v, %v, %#04x, %d) = %v, which is no memory", l, m, at, v, after)
	}
	for _, place := range places {
		kept := memory.Get(m, place)
		if place == at && all[at].ram {
			kept = v
		}
		if got := memory.Get(after, place); got != kept {
			t.Errorf("Write(%v, %v, %#04x, %d) gives the byte %d at %#04x, want %d", l, m, at, v, got, place, kept)
		}
		read := byte(0xFF)
		if all[place].found {
			read = kept
		}
		if got := regions.Read(l, after, place); got != read {
			t.Errorf("Read at %#04x after Write(%v, %v, %#04x, %d) = %d, want %d", place, l, m, at, v, got, read)
		}
	}
}

// P13.4: a region that earlier ones cover, one of them alone or together, may be left out or changed.
func TestCoveredRegions(t *testing.T) {
	m := cells(0x0000, 1, 0x1000, 2, 0x1800, 3, 0x3000, 4, 0xFFFF, 5)
	before := []api.Region{ram(0x1000, 0x17FF, 3), rom(0x1800, 0x1FFF, 4), rom(0xFFFF, 0x0000, 6)}
	after := []api.Region{ram(0x2000, 0x2FFF, 5), rom(0xFFFF, 0xFFFF, 7)}
	without := slices.Concat(before, after)
	for _, covered := range []api.Region{
		rom(0x1000, 0x1000, 8), ram(0x1FFF, 0x1FFF, 8), rom(0x1000, 0x17FF, 8), ram(0x1800, 0x1FFF, 8), rom(0x1000, 0x1FFF, 8),
		ram(0x1000, 0x1FFF, 101), rom(0x17FF, 0x1800, -1), ram(0x1001, 0x1FFE, 8), ram(0x5000, 0x4FFF, 8),
	} {
		with := slices.Concat(before, []api.Region{covered}, after)
		for at := range 1 << 16 {
			checkAlike(t, with, without, m, uint16(at))
		}
		if got, want := regions.Find(with, 0x2000), regions.Find(without, 0x2000)+1; got != want {
			t.Errorf("Find(%v, 0x2000) = %d, want %d", with, got, want)
		}
	}
}

// checkAlike compares what two maps do at an address.
func checkAlike(t *testing.T, l, k []api.Region, m []api.Cell, at uint16) {
	t.Helper()
	if got, want := regions.Read(l, m, at), regions.Read(k, m, at); got != want {
		t.Fatalf("Read at %#04x = %d with %v, but %d with %v", at, got, l, want, k)
	}
	if got, want := regions.Waits(l, at), regions.Waits(k, at); got != want {
		t.Fatalf("Waits at %#04x = %d with %v, but %d with %v", at, got, l, want, k)
	}
	if got, want := regions.Write(l, m, at, 9), regions.Write(k, m, at, 9); !slices.Equal(got, want) {
		t.Fatalf("Write to %#04x = %v with %v, but %v with %v", at, got, l, want, k)
	}
}

// R2: both lists are left as they are, in the spare capacity too, also if the result is changed.
func TestArgumentsAreLeft(t *testing.T) {
	for _, list := range [][]api.Cell{nil, cells(5, 1), cells(1, 1, 5, 2, 9, 3), cells(9, 3, 5, 2, 1, 1), cells(5, 1, 5, 2), cells(5, 0, 8, 1)} {
		cellsOfAll := append(slices.Clone(list), cells(20, 9, 3, 0, 5, 8)...)
		regionsOfAll := []api.Region{rom(8, 6, -1), ram(0, 5, 101), rom(6, 7, 2), ram(0, 0xFFFF, 3)}
		keptCells, keptRegions := slices.Clone(cellsOfAll), slices.Clone(regionsOfAll)
		m, l := cellsOfAll[:len(list)], regionsOfAll[:3]
		for _, at := range []uint16{0, 1, 5, 6, 7, 8, 0xFFFF} {
			for _, v := range []byte{0, 7} {
				got := regions.Write(l, m, at, v)
				got = got[:cap(got)]
				for i := range got {
					got[i] = api.Cell{At: 0x5555, Val: 0x55}
				}
				regions.Validate(l)
				regions.Find(l, at)
				regions.Waits(l, at)
				regions.Read(l, m, at)
				if !slices.Equal(cellsOfAll, keptCells) || !slices.Equal(regionsOfAll, keptRegions) {
					t.Fatalf("the calls at %#04x change %v to %v, or %v to %v", at, keptCells, cellsOfAll, keptRegions, regionsOfAll)
				}
			}
		}
	}
}

// R2: a result stays as it is if the argument changes.
func TestResultsAreNew(t *testing.T) {
	for at := range uint16(9) {
		m := cells(1, 1, 5, 2, 9, 3)
		got := regions.Write([]api.Region{rom(0, 3, 0), ram(4, 6, 0)}, m, at, 7)
		kept := slices.Clone(got)
		for i := range m {
			m[i] = api.Cell{At: 0x5555, Val: 0x55}
		}
		if !slices.Equal(got, kept) {
			t.Errorf("Write to %d gives %v, which turns into %v", at, kept, got)
		}
	}
}

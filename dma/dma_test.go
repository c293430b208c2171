package dma_test

import (
	"math"
	"slices"
	"testing"

	"tstate/api"
	"tstate/dma"
)

// registers are numbers of each register: its own one, others that agree with it in the lowest two bits, and the ends of int.
var registers = [4][]int{
	{0, 4, 8, 12, 252, 256, 1 << 32, -4, -8, -256, math.MinInt, math.MaxInt - 3},
	{1, 5, 9, 13, 253, 257, 1<<32 + 1, -3, -7, -255, math.MinInt + 1, math.MaxInt - 2},
	{2, 6, 10, 14, 254, 258, 1<<32 + 2, -2, -6, -254, math.MinInt + 2, math.MaxInt - 1},
	{3, 7, 11, 15, 255, 259, 1<<32 + 3, -1, -5, -253, math.MinInt + 3, math.MaxInt},
}

// lefts are numbers of bytes that are left, and their lowest eight bits.
var lefts = []struct {
	left int
	low  byte
}{
	{0, 0x00}, {1, 0x01}, {2, 0x02}, {127, 0x7F}, {128, 0x80}, {254, 0xFE}, {255, 0xFF}, {256, 0x00}, {257, 0x01}, {300, 0x2C}, {511, 0xFF}, {512, 0x00},
	{1 << 16, 0x00}, {1<<31 + 7, 0x07}, {1 << 32, 0x00}, {1<<32 + 1, 0x01}, {math.MaxInt - 1, 0xFE}, {math.MaxInt, 0xFF},
	{-1, 0xFF}, {-2, 0xFE}, {-128, 0x80}, {-255, 0x01}, {-256, 0x00}, {-257, 0xFF}, {math.MinInt, 0x00}, {math.MinInt + 1, 0x01},
}

var addresses = []uint16{0x0000, 0x0001, 0x00FE, 0x00FF, 0x0100, 0x1234, 0x1FFF, 0x7FFF, 0x8000, 0xFF00, 0xFFFE, 0xFFFF}

var values = []byte{0x00, 0x01, 0x07, 0x7F, 0x80, 0xA5, 0xFF}

// masters returns masters with all of the addresses, values and numbers of bytes above.
func masters() (l []api.DMA) {
	for _, at := range addresses {
		for _, v := range values {
			for _, x := range lefts {
				l = append(l, api.DMA{At: at, Value: v, Left: x.left})
			}
		}
	}
	return l
}

// P23.1
func TestWriteExamples(t *testing.T) {
	d := api.DMA{At: 0x1234, Value: 9, Left: 300}
	for _, x := range []struct {
		reg  int
		v    byte
		want api.DMA
	}{
		{0, 0xAB, api.DMA{At: 0x12AB, Value: 9, Left: 300}}, {0, 0x00, api.DMA{At: 0x1200, Value: 9, Left: 300}},
		{1, 0xAB, api.DMA{At: 0xAB34, Value: 9, Left: 300}}, {1, 0x00, api.DMA{At: 0x0034, Value: 9, Left: 300}},
		{2, 0xAB, api.DMA{At: 0x1234, Value: 0xAB, Left: 300}}, {2, 0x00, api.DMA{At: 0x1234, Value: 0, Left: 300}},
		{3, 0xAB, api.DMA{At: 0x1234, Value: 9, Left: 171}}, {3, 0x00, api.DMA{At: 0x1234, Value: 9, Left: 0}},
		{3, 0xFF, api.DMA{At: 0x1234, Value: 9, Left: 255}}, {4, 0x01, api.DMA{At: 0x1201, Value: 9, Left: 300}},
		{-1, 0x80, api.DMA{At: 0x1234, Value: 9, Left: 128}}, {-2, 0x80, api.DMA{At: 0x1234, Value: 0x80, Left: 300}},
		{-3, 0x80, api.DMA{At: 0x8034, Value: 9, Left: 300}}, {-4, 0x80, api.DMA{At: 0x1280, Value: 9, Left: 300}},
	} {
		if got := dma.Write(d, x.reg, x.v); got != x.want {
			t.Errorf("Write(%+v, %d, %#02x) = %+v, want %+v", d, x.reg, x.v, got, x.want)
		}
	}
}

// written is a model of Write for the registers 0 to 3.
func written(d api.DMA, reg int, v byte) api.DMA {
	high, low := int(d.At)/256, int(d.At)%256
	return []api.DMA{
		{At: uint16(high*256 + int(v)), Value: d.Value, Left: d.Left},
		{At: uint16(int(v)*256 + low), Value: d.Value, Left: d.Left},
		{At: d.At, Value: v, Left: d.Left},
		{At: d.At, Value: d.Value, Left: int(v)},
	}[reg]
}

// P23.1: all bytes in all registers of many masters. The byte is read back, and those of the other registers stay.
func TestWriteOfAllBytes(t *testing.T) {
	for _, d := range masters() {
		for reg := range registers {
			for v := range 256 {
				got, want := dma.Write(d, reg, byte(v)), written(d, reg, byte(v))
				if got != want {
					t.Fatalf("Write(%+v, %d, %#02x) = %+v, want %+v", d, reg, v, got, want)
				}
				for other := range registers {
					before := dma.Read(d, other)
					if other == reg {
						before = byte(v)
					}
					if b := dma.Read(got, other); b != before {
						t.Fatalf("after %#02x to register %d of %+v, register %d is %#02x, want %#02x", v, reg, d, other, b, before)
					}
				}
			}
		}
	}
}

// P23.1: of the number of a register the lowest two bits count.
func TestNumbersOfRegisters(t *testing.T) {
	for _, d := range masters() {
		for reg, numbers := range registers {
			for _, number := range numbers {
				if got, want := dma.Write(d, number, 0x5A), written(d, reg, 0x5A); got != want {
					t.Fatalf("Write(%+v, %d, 0x5a) = %+v, want %+v", d, number, got, want)
				}
				if got, want := dma.Read(d, number), dma.Read(d, reg); got != want {
					t.Fatalf("Read(%+v, %d) = %#02x, want %#02x", d, number, got, want)
				}
			}
		}
	}
}

// P23.1: all addresses and all values.
func TestRead(t *testing.T) {
	for at := range 1 << 16 {
		v := byte(at * 7)
		d := api.DMA{At: uint16(at), Value: v, Left: 300}
		for reg, want := range []byte{byte(at % 256), byte(at / 256), v, 44} {
			if got := dma.Read(d, reg); got != want {
				t.Fatalf("Read(%+v, %d) = %#02x, want %#02x", d, reg, got, want)
			}
		}
	}
}

// P23.1: the number of bytes that are left is read by its lowest eight bits, whatever it is.
func TestReadOfLeft(t *testing.T) {
	for _, x := range lefts {
		if got := dma.Read(api.DMA{At: 0x1234, Value: 9, Left: x.left}, 3); got != x.low {
			t.Errorf("with %d left, register 3 is %#02x, want %#02x", x.left, got, x.low)
		}
	}
	for left := -1000; left <= 1000; left++ {
		if got := dma.Read(api.DMA{Left: left}, 3); got != byte((left+1024)%256) {
			t.Errorf("with %d left, register 3 is %#02x", left, got)
		}
	}
}

// P23.2: Left alone decides.
func TestRequest(t *testing.T) {
	for left, want := range map[int]bool{
		1: true, 2: true, 255: true, 256: true, 1 << 32: true, math.MaxInt: true,
		0: false, -1: false, -255: false, -256: false, -1 << 32: false, math.MinInt: false, math.MinInt + 1: false,
	} {
		for _, at := range addresses {
			for _, v := range values {
				if d := (api.DMA{At: at, Value: v, Left: left}); dma.Request(d) != want {
					t.Fatalf("Request(%+v) is not %t", d, want)
				}
			}
		}
	}
}

// P23.2
func TestTransferExamples(t *testing.T) {
	for _, x := range []struct {
		d, next api.DMA
		cell    api.Cell
	}{
		{api.DMA{At: 0x1FFF, Value: 7, Left: 2}, api.DMA{At: 0x2000, Value: 7, Left: 1}, api.Cell{At: 0x1FFF, Val: 7}},
		{api.DMA{At: 0x2000, Value: 7, Left: 1}, api.DMA{At: 0x2001, Value: 7}, api.Cell{At: 0x2000, Val: 7}},
		{api.DMA{At: 0xFFFF, Value: 0xFF, Left: 255}, api.DMA{Value: 0xFF, Left: 254}, api.Cell{At: 0xFFFF, Val: 0xFF}},
		{api.DMA{Left: 1}, api.DMA{At: 1}, api.Cell{}}, // the byte 0 at the address 0 is a cell that is written
		{api.DMA{At: 0xFFFF, Left: 1}, api.DMA{}, api.Cell{At: 0xFFFF}},
		{api.DMA{At: 0x00FF, Value: 1, Left: 256}, api.DMA{At: 0x0100, Value: 1, Left: 255}, api.Cell{At: 0x00FF, Val: 1}},
		{api.DMA{At: 5, Value: 1, Left: math.MaxInt}, api.DMA{At: 6, Value: 1, Left: math.MaxInt - 1}, api.Cell{At: 5, Val: 1}},
	} {
		if next, cell, ok := dma.Transfer(x.d); next != x.next || cell != x.cell || !ok {
			t.Errorf("Transfer(%+v) = %+v, %+v, %t, want %+v, %+v, true", x.d, next, cell, ok, x.next, x.cell)
		}
	}
}

// P23.2: without a request there is no master and no cell.
func TestTransferWithoutRequest(t *testing.T) {
	for _, left := range []int{0, -1, -2, -255, -256, -1 << 32, math.MinInt + 1, math.MinInt} {
		for _, at := range addresses {
			for _, v := range values {
				d := api.DMA{At: at, Value: v, Left: left}
				if next, cell, ok := dma.Transfer(d); next != (api.DMA{}) || cell != (api.Cell{}) || ok {
					t.Fatalf("Transfer(%+v) = %+v, %+v, %t, want no cell", d, next, cell, ok)
				}
			}
		}
	}
}

// P23.2: all addresses, with all values.
func TestTransferOfAllAddresses(t *testing.T) {
	for at := range 1 << 16 {
		for _, v := range []byte{byte(at), byte(at>>8) + 1} {
			d := api.DMA{At: uint16(at), Value: v, Left: at + 1}
			next, cell, ok := dma.Transfer(d)
			if next != (api.DMA{At: uint16((at + 1) % 65536), Value: v, Left: at}) || cell != (api.Cell{At: uint16(at), Val: v}) || !ok {
				t.Fatalf("Transfer(%+v) = %+v, %+v, %t", d, next, cell, ok)
			}
		}
	}
}

// P23.2: a transfer takes place exactly if it is requested.
func TestTransferFollowsRequest(t *testing.T) {
	for _, d := range masters() {
		if _, _, ok := dma.Transfer(d); ok != dma.Request(d) {
			t.Fatalf("Transfer of %+v: %t, Request: %t", d, ok, dma.Request(d))
		}
	}
}

// transfers returns the cells of all transfers of a master, of at most 1000, and the master after them.
func transfers(d api.DMA) (cells []api.Cell, after api.DMA) {
	for len(cells) < 1000 {
		next, cell, ok := dma.Transfer(d)
		if !ok {
			break
		}
		cells, d = append(cells, cell), next
	}
	return cells, d
}

// P23.3: exactly n transfers after n is written, whatever was left before, to one address after another. After 0xFFFF
// comes the address 0.
func TestTransfersAfterWrite(t *testing.T) {
	for _, at := range addresses {
		for _, x := range lefts {
			for n := range 256 {
				var want []api.Cell
				for i := range n {
					want = append(want, api.Cell{At: uint16((int(at) + i) % 65536), Val: 0xA5})
				}
				cells, after := transfers(dma.Write(api.DMA{At: at, Value: 0xA5, Left: x.left}, 3, byte(n)))
				if !slices.Equal(cells, want) {
					t.Fatalf("from %#04x, %d transfers: %v", at, n, cells)
				}
				if end := uint16((int(at) + n) % 65536); after != (api.DMA{At: end, Value: 0xA5}) || dma.Request(after) {
					t.Fatalf("from %#04x, after %d transfers: %+v", at, n, after)
				}
			}
		}
	}
}

// P23.3: the addresses ascend, as long as they do not go beyond 0xFFFF.
func TestAddressesAscend(t *testing.T) {
	for _, at := range []uint16{0x0000, 0x00FF, 0x1FFF, 0x7FFF, 0xFF00, 0xFF01} {
		cells, _ := transfers(dma.Write(api.DMA{At: at, Value: 1}, 3, 255))
		for i, c := range cells[1:] {
			if cells[i].At >= c.At {
				t.Fatalf("from %#04x: %#04x comes before %#04x", at, cells[i].At, c.At)
			}
		}
	}
}

// P23.1 to P23.3: registers that are written one after another, and again while bytes are left.
func TestScene(t *testing.T) {
	var d api.DMA
	for reg, v := range []byte{0xFF, 0x1F, 7, 2} {
		d = dma.Write(d, reg, v)
	}
	d, first, ok1 := dma.Transfer(d)
	d = dma.Write(dma.Write(d, 2, 8), 3, 3)
	rest, after := transfers(d)
	want := []api.Cell{{At: 0x1FFF, Val: 7}, {At: 0x2000, Val: 8}, {At: 0x2001, Val: 8}, {At: 0x2002, Val: 8}}
	if got := append([]api.Cell{first}, rest...); !ok1 || !slices.Equal(got, want) {
		t.Errorf("the cells are %+v, want %+v", got, want)
	}
	if after != (api.DMA{At: 0x2003, Value: 8}) {
		t.Errorf("after the transfers: %+v", after)
	}
	d = dma.Write(dma.Write(after, 3, 9), 3, 0)
	if cells, _ := transfers(d); dma.Request(d) || len(cells) > 0 {
		t.Errorf("after 0 to register 3 there are the cells %+v", cells)
	}
}

package regs_test

import (
	"math"
	"testing"

	"tstate/api"
	"tstate/regs"
)

// others are numbers that are not api.Chip8085, so that they count as the 8080.
var others = []int{api.Chip8080, 0, 3, 7, -1, -2, api.Chip8085 + 256, math.MaxInt, math.MinInt, math.MinInt + api.Chip8085}

var chips = append([]int{api.Chip8085}, others...)

// samples are registers that differ from each other, also with their bytes in another order, and the extreme ones.
var samples = []api.Regs{
	{},
	{A: 0x17, B: 0x20, C: 0x31, D: 0x42, E: 0x53, H: 0x64, L: 0x75, F: api.Flags{S: true, AC: true, CY: true}, SP: 0x8796, PC: 0xA9B8},
	{A: 0x80, B: 0xFE, C: 0xED, D: 0xDC, E: 0xCB, H: 0xBA, L: 0xA9, F: api.Flags{Z: true, K: true, P: true, V: true}, SP: 0x0102, PC: 0x0304},
	{A: 0xFF, B: 0xFF, C: 0xFF, D: 0xFF, E: 0xFF, H: 0xFF, L: 0xFF, F: all(), SP: 0xFFFF, PC: 0xFFFF},
}

func all() api.Flags {
	return api.Flags{S: true, Z: true, K: true, AC: true, P: true, V: true, CY: true}
}

// allFlags returns all 128 sets of flags.
func allFlags() (sets []api.Flags) {
	for n := range 128 {
		sets = append(sets, api.Flags{S: n&1 > 0, Z: n&2 > 0, K: n&4 > 0, AC: n&8 > 0, P: n&16 > 0, V: n&32 > 0, CY: n&64 > 0})
	}
	return sets
}

// field returns the register of r with the number n from 0 to 7, or nil for M.
func field(r *api.Regs, n int) *byte {
	return []*byte{&r.B, &r.C, &r.D, &r.E, &r.H, &r.L, nil, &r.A}[n]
}

// set returns r with the register with the number n from 0 to 7 replaced by v, apart from M.
func set(r api.Regs, n int, v byte) api.Regs {
	if p := field(&r, n); p != nil {
		*p = v
	}
	return r
}

// pair returns the pair of r with the number n from 0 to 3.
func pair(r api.Regs, n int) uint16 {
	return []uint16{
		uint16(r.B)*256 + uint16(r.C),
		uint16(r.D)*256 + uint16(r.E),
		uint16(r.H)*256 + uint16(r.L),
		r.SP,
	}[n]
}

// setPair returns r with the pair with the number n from 0 to 3 replaced by v.
func setPair(r api.Regs, n int, v uint16) api.Regs {
	high, low := byte(v/256), byte(v%256)
	switch n {
	case 0:
		r.B, r.C = high, low
	case 1:
		r.D, r.E = high, low
	case 2:
		r.H, r.L = high, low
	case 3:
		r.SP = v
	}
	return r
}

// pack returns the byte of the flags, bit by bit.
func pack(chip int, f api.Flags) byte {
	is85 := chip == api.Chip8085
	b := 0
	for _, bit := range []bool{f.S, f.Z, is85 && f.K, f.AC, false, f.P, !is85 || f.V, f.CY} {
		b *= 2
		if bit {
			b++
		}
	}
	return byte(b)
}

// unpack returns the flags of the byte, bit by bit.
func unpack(chip int, b byte) api.Flags {
	n, is85 := int(b), chip == api.Chip8085
	return api.Flags{
		S: n/128%2 > 0, Z: n/64%2 > 0, K: is85 && n/32%2 > 0, AC: n/16%2 > 0, P: n/4%2 > 0, V: is85 && n/2%2 > 0, CY: n%2 > 0,
	}
}

// numbers returns numbers with the remainder n modulo m, which is a power of 2: n itself, greater and negative ones.
func numbers(n, m int) []int {
	return []int{n, n + m, n + 5*m, n + 256, n + 1<<30, n - m, n - 3*m, n - 256, n - 1<<30, math.MaxInt - m + 1 + n, math.MinInt + n}
}

// P8.1
func TestGetExamples(t *testing.T) {
	r := samples[1]
	for _, x := range []struct {
		n    int
		want byte
	}{
		{api.RegB, 0x20}, {api.RegC, 0x31}, {api.RegD, 0x42}, {api.RegE, 0x53}, {api.RegH, 0x64}, {api.RegL, 0x75}, {api.RegM, 0x00}, {api.RegA, 0x17},
		{8, 0x20}, {13, 0x75}, {14, 0x00}, {15, 0x17}, {0x7E, 0x00}, {0x7F, 0x17}, {256, 0x20},
		{-1, 0x17}, {-2, 0x00}, {-3, 0x75}, {-7, 0x31}, {-8, 0x20}, {math.MaxInt, 0x17}, {math.MaxInt - 1, 0x00}, {math.MinInt, 0x20}, {math.MinInt + 1, 0x31},
	} {
		if got := regs.Get(r, x.n); got != x.want {
			t.Errorf("Get(%+v, %d) = %#02x, want %#02x", r, x.n, got, x.want)
		}
	}
}

// P8.1
func TestGetOfAllNumbers(t *testing.T) {
	for _, r := range samples {
		for n := range 8 {
			want := byte(0)
			if p := field(&r, n); p != nil {
				want = *p
			}
			for _, k := range numbers(n, 8) {
				if got := regs.Get(r, k); got != want {
					t.Errorf("Get(%+v, %d) = %#02x, want %#02x", r, k, got, want)
				}
			}
		}
	}
}

// P8.1
func TestGetOfAllBytes(t *testing.T) {
	for v := range 256 {
		for _, r := range samples {
			for n := range 8 {
				p := field(&r, n)
				if p == nil {
					continue
				}
				*p = byte(v)
				if got := regs.Get(r, n); int(got) != v {
					t.Errorf("Get(%+v, %d) = %#02x, want %#02x", r, n, got, v)
				}
			}
		}
	}
}

// P8.1
func TestSetExamples(t *testing.T) {
	r := samples[1]
	for _, x := range []struct {
		n    int
		want api.Regs
	}{
		{api.RegB, api.Regs{A: 0x17, B: 0xEE, C: 0x31, D: 0x42, E: 0x53, H: 0x64, L: 0x75, F: r.F, SP: r.SP, PC: r.PC}},
		{api.RegC, api.Regs{A: 0x17, B: 0x20, C: 0xEE, D: 0x42, E: 0x53, H: 0x64, L: 0x75, F: r.F, SP: r.SP, PC: r.PC}},
		{api.RegD, api.Regs{A: 0x17, B: 0x20, C: 0x31, D: 0xEE, E: 0x53, H: 0x64, L: 0x75, F: r.F, SP: r.SP, PC: r.PC}},
		{api.RegE, api.Regs{A: 0x17, B: 0x20, C: 0x31, D: 0x42, E: 0xEE, H: 0x64, L: 0x75, F: r.F, SP: r.SP, PC: r.PC}},
		{api.RegH, api.Regs{A: 0x17, B: 0x20, C: 0x31, D: 0x42, E: 0x53, H: 0xEE, L: 0x75, F: r.F, SP: r.SP, PC: r.PC}},
		{api.RegL, api.Regs{A: 0x17, B: 0x20, C: 0x31, D: 0x42, E: 0x53, H: 0x64, L: 0xEE, F: r.F, SP: r.SP, PC: r.PC}},
		{api.RegM, r},
		{api.RegA, api.Regs{A: 0xEE, B: 0x20, C: 0x31, D: 0x42, E: 0x53, H: 0x64, L: 0x75, F: r.F, SP: r.SP, PC: r.PC}},
	} {
		for _, k := range numbers(x.n, 8) {
			if got := regs.Set(r, k, 0xEE); got != x.want {
				t.Errorf("Set(%+v, %d, 0xEE) = %+v, want %+v", r, k, got, x.want)
			}
		}
	}
}

// P8.1
func TestSetOfAllBytes(t *testing.T) {
	for _, r := range samples {
		for n := range 8 {
			for v := range 256 {
				for _, k := range numbers(n, 8) {
					if got, want := regs.Set(r, k, byte(v)), set(r, n, byte(v)); got != want {
						t.Errorf("Set(%+v, %d, %#02x) = %+v, want %+v", r, k, v, got, want)
					}
				}
			}
		}
	}
}

// P8.2
func TestPairExamples(t *testing.T) {
	if got := regs.Pair(api.Regs{B: 0x12, C: 0x34}, api.PairB); got != 0x1234 {
		t.Errorf("Pair of B = 0x12 and C = 0x34 is %#04x", got)
	}
	r := samples[1]
	for _, x := range []struct {
		n    int
		want uint16
	}{
		{api.PairB, 0x2031}, {api.PairD, 0x4253}, {api.PairH, 0x6475}, {api.PairSP, 0x8796},
		{4, 0x2031}, {5, 0x4253}, {6, 0x6475}, {7, 0x8796}, {256, 0x2031},
		{-1, 0x8796}, {-2, 0x6475}, {-3, 0x4253}, {-4, 0x2031}, {math.MaxInt, 0x8796}, {math.MaxInt - 1, 0x6475}, {math.MinInt, 0x2031}, {math.MinInt + 1, 0x4253},
	} {
		if got := regs.Pair(r, x.n); got != x.want {
			t.Errorf("Pair(%+v, %d) = %#04x, want %#04x", r, x.n, got, x.want)
		}
	}
}

// P8.2
func TestPairOfAllNumbers(t *testing.T) {
	for _, r := range samples {
		for n := range 4 {
			for _, k := range numbers(n, 4) {
				if got, want := regs.Pair(r, k), pair(r, n); got != want {
					t.Errorf("Pair(%+v, %d) = %#04x, want %#04x", r, k, got, want)
				}
			}
		}
	}
}

// P8.2
func TestPairOfAllWords(t *testing.T) {
	for v := range 1 << 16 {
		for n := range 4 {
			r := setPair(samples[1], n, uint16(v))
			if got := regs.Pair(r, n); int(got) != v {
				t.Fatalf("Pair(%+v, %d) = %#04x, want %#04x", r, n, got, v)
			}
		}
	}
}

// P8.2
func TestSetPairExamples(t *testing.T) {
	r := samples[1]
	for _, x := range []struct {
		n    int
		want api.Regs
	}{
		{api.PairB, api.Regs{A: 0x17, B: 0xEE, C: 0xDD, D: 0x42, E: 0x53, H: 0x64, L: 0x75, F: r.F, SP: r.SP, PC: r.PC}},
		{api.PairD, api.Regs{A: 0x17, B: 0x20, C: 0x31, D: 0xEE, E: 0xDD, H: 0x64, L: 0x75, F: r.F, SP: r.SP, PC: r.PC}},
		{api.PairH, api.Regs{A: 0x17, B: 0x20, C: 0x31, D: 0x42, E: 0x53, H: 0xEE, L: 0xDD, F: r.F, SP: r.SP, PC: r.PC}},
		{api.PairSP, api.Regs{A: 0x17, B: 0x20, C: 0x31, D: 0x42, E: 0x53, H: 0x64, L: 0x75, F: r.F, SP: 0xEEDD, PC: r.PC}},
	} {
		for _, k := range numbers(x.n, 4) {
			if got := regs.SetPair(r, k, 0xEEDD); got != x.want {
				t.Errorf("SetPair(%+v, %d, 0xEEDD) = %+v, want %+v", r, k, got, x.want)
			}
		}
	}
}

// P8.2
func TestSetPairOfAllWords(t *testing.T) {
	for v := range 1 << 16 {
		for _, r := range samples {
			for n := range 4 {
				if got, want := regs.SetPair(r, n, uint16(v)), setPair(r, n, uint16(v)); got != want {
					t.Fatalf("SetPair(%+v, %d, %#04x) = %+v, want %+v", r, n, v, got, want)
				}
			}
		}
	}
}

// P8.3
func TestPSWExamples(t *testing.T) {
	for _, x := range []struct {
		chip int
		a    byte
		f    api.Flags
		want uint16
	}{
		{api.Chip8080, 0x55, api.Flags{}, 0x5502}, {api.Chip8085, 0x55, api.Flags{}, 0x5500},
		{api.Chip8080, 0x00, api.Flags{K: true, V: true}, 0x0002}, {api.Chip8085, 0x00, api.Flags{K: true, V: true}, 0x0022},
		{api.Chip8080, 0xFF, all(), 0xFFD7}, {api.Chip8085, 0xFF, all(), 0xFFF7},
		{api.Chip8080, 0x80, api.Flags{S: true, CY: true}, 0x8083}, {api.Chip8085, 0x01, api.Flags{Z: true, AC: true, P: true}, 0x0154},
		{0, 0x55, api.Flags{}, 0x5502}, {-2, 0x00, api.Flags{K: true, V: true}, 0x0002},
	} {
		r := samples[1]
		r.A, r.F = x.a, x.f
		if got := regs.PSW(x.chip, r); got != x.want {
			t.Errorf("PSW(%d, %+v) = %#04x, want %#04x", x.chip, r, got, x.want)
		}
	}
}

// P8.3: all bytes in A, and all flags, beside all samples of the other registers, which take no part.
func TestPSWOfAllFlags(t *testing.T) {
	for _, r := range samples {
		for _, chip := range chips {
			for _, f := range allFlags() {
				for a := range 256 {
					r.A, r.F = byte(a), f
					if got, want := regs.PSW(chip, r), uint16(a)*256+uint16(pack(chip, f)); got != want {
						t.Fatalf("PSW(%d, %+v) = %#04x, want %#04x", chip, r, got, want)
					}
				}
			}
		}
	}
}

// P8.3
func TestSetPSWExamples(t *testing.T) {
	withoutKV := all()
	withoutKV.K, withoutKV.V = false, false
	for _, x := range []struct {
		chip int
		v    uint16
		a    byte
		f    api.Flags
	}{
		{api.Chip8080, 0x5502, 0x55, api.Flags{}}, {api.Chip8085, 0x5502, 0x55, api.Flags{V: true}},
		{api.Chip8080, 0x0000, 0x00, api.Flags{}}, {api.Chip8085, 0x0000, 0x00, api.Flags{}},
		{api.Chip8080, 0x0028, 0x00, api.Flags{}}, {api.Chip8085, 0x0028, 0x00, api.Flags{K: true}},
		{api.Chip8080, 0xFFFF, 0xFF, withoutKV}, {api.Chip8085, 0xFFFF, 0xFF, all()},
		{api.Chip8080, 0x8001, 0x80, api.Flags{CY: true}}, {api.Chip8085, 0x0180, 0x01, api.Flags{S: true}},
		{0, 0x5502, 0x55, api.Flags{}}, {-2, 0xFFFF, 0xFF, withoutKV},
	} {
		for _, r := range samples {
			want := r
			want.A, want.F = x.a, x.f
			if got := regs.SetPSW(x.chip, r, x.v); got != want {
				t.Errorf("SetPSW(%d, %+v, %#04x) = %+v, want %+v", x.chip, r, x.v, got, want)
			}
		}
	}
}

// P8.3
func TestSetPSWOfAllWords(t *testing.T) {
	for _, r := range samples {
		for _, chip := range chips {
			for v := range 1 << 16 {
				want := r
				want.A, want.F = byte(v/256), unpack(chip, byte(v%256))
				if got := regs.SetPSW(chip, r, uint16(v)); got != want {
					t.Fatalf("SetPSW(%d, %+v, %#04x) = %+v, want %+v", chip, r, v, got, want)
				}
			}
		}
	}
}

// P8.4: Set changes what Get returns for its own number alone.
func TestGetAfterSet(t *testing.T) {
	for _, r := range samples {
		for n := range 8 {
			for v := range 256 {
				s := regs.Set(r, n, byte(v))
				for k := range 8 {
					want := regs.Get(r, k)
					if k == n && n != api.RegM {
						want = byte(v)
					}
					if got := regs.Get(s, k); got != want {
						t.Errorf("Get %d after Set %d to %#02x in %+v = %#02x, want %#02x", k, n, v, r, got, want)
					}
				}
				if s.F != r.F || s.SP != r.SP || s.PC != r.PC {
					t.Errorf("Set %d to %#02x turns %+v into %+v", n, v, r, s)
				}
			}
		}
	}
}

// P8.4: SetPair changes what Pair returns for its own number alone.
func TestPairAfterSetPair(t *testing.T) {
	for v := range 1 << 16 {
		for _, r := range samples {
			for n := range 4 {
				s := regs.SetPair(r, n, uint16(v))
				for k := range 4 {
					want := regs.Pair(r, k)
					if k == n {
						want = uint16(v)
					}
					if got := regs.Pair(s, k); got != want {
						t.Fatalf("Pair %d after SetPair %d to %#04x in %+v = %#04x, want %#04x", k, n, v, r, got, want)
					}
				}
				if s.A != r.A || s.F != r.F || s.PC != r.PC {
					t.Fatalf("SetPair %d to %#04x turns %+v into %+v", n, v, r, s)
				}
			}
		}
	}
}

// P8.4: the pairs 0 to 2 consist of the registers with the numbers 0 and 1, 2 and 3, 4 and 5.
func TestPairsConsistOfRegisters(t *testing.T) {
	for v := range 1 << 16 {
		high, low := byte(v/256), byte(v%256)
		for _, r := range samples {
			for n := range 3 {
				set := regs.Set(regs.Set(r, 2*n, high), 2*n+1, low)
				if got := regs.Pair(set, n); int(got) != v {
					t.Fatalf("Pair(%+v, %d) = %#04x, want %#04x", set, n, got, v)
				}
				s := regs.SetPair(r, n, uint16(v))
				if h, l := regs.Get(s, 2*n), regs.Get(s, 2*n+1); h != high || l != low {
					t.Fatalf("SetPair(%+v, %d, %#04x) sets %#02x and %#02x", r, n, v, h, l)
				}
				if s != set {
					t.Fatalf("SetPair(%+v, %d, %#04x) = %+v, but Set gives %+v", r, n, v, s, set)
				}
			}
		}
	}
}

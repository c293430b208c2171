package opcode_test

import (
	"math"
	"strings"
	"sync"
	"testing"

	"tstate/api"
	"tstate/opcode"
)

// others are numbers that are not api.Chip8085, so that they count as the 8080.
var others = []int{api.Chip8080, 0, 3, 7, -1, -2, api.Chip8085 + 256, math.MaxInt, math.MinInt, math.MinInt + api.Chip8085}

var chips = append([]int{api.Chip8085}, others...)

// words8080 names the instructions of all opcodes of the 8080 in their order, eight in a line.
const words8080 = `
nop     lxi.b   stax.b  inx.b   inr.b   dcr.b   mvi.b   rlc
nop     dad.b   ldax.b  dcx.b   inr.c   dcr.c   mvi.c   rrc
nop     lxi.d   stax.d  inx.d   inr.d   dcr.d   mvi.d   ral
nop     dad.d   ldax.d  dcx.d   inr.e   dcr.e   mvi.e   rar
nop     lxi.h   shld    inx.h   inr.h   dcr.h   mvi.h   daa
nop     dad.h   lhld    dcx.h   inr.l   dcr.l   mvi.l   cma
nop     lxi.sp  sta     inx.sp  inr.m   dcr.m   mvi.m   stc
nop     dad.sp  lda     dcx.sp  inr.a   dcr.a   mvi.a   cmc
mov.b.b mov.b.c mov.b.d mov.b.e mov.b.h mov.b.l mov.b.m mov.b.a
mov.c.b mov.c.c mov.c.d mov.c.e mov.c.h mov.c.l mov.c.m mov.c.a
mov.d.b mov.d.c mov.d.d mov.d.e mov.d.h mov.d.l mov.d.m mov.d.a
mov.e.b mov.e.c mov.e.d mov.e.e mov.e.h mov.e.l mov.e.m mov.e.a
mov.h.b mov.h.c mov.h.d mov.h.e mov.h.h mov.h.l mov.h.m mov.h.a
mov.l.b mov.l.c mov.l.d mov.l.e mov.l.h mov.l.l mov.l.m mov.l.a
mov.m.b mov.m.c mov.m.d mov.m.e mov.m.h mov.m.l hlt     mov.m.a
mov.a.b mov.a.c mov.a.d mov.a.e mov.a.h mov.a.l mov.a.m mov.a.a
add.b   add.c   add.d   add.e   add.h   add.l   add.m   add.a
adc.b   adc.c   adc.d   adc.e   adc.h   adc.l   adc.m   adc.a
sub.b   sub.c   sub.d   sub.e   sub.h   sub.l   sub.m   sub.a
sbb.b   sbb.c   sbb.d   sbb.e   sbb.h   sbb.l   sbb.m   sbb.a
ana.b   ana.c   ana.d   ana.e   ana.h   ana.l   ana.m   ana.a
xra.b   xra.c   xra.d   xra.e   xra.h   xra.l   xra.m   xra.a
ora.b   ora.c   ora.d   ora.e   ora.h   ora.l   ora.m   ora.a
cmp.b   cmp.c   cmp.d   cmp.e   cmp.h   cmp.l   cmp.m   cmp.a
rnz     pop.b   jnz     jmp     cnz     push.b  adi     rst.0
rz      ret     jz      jmp     cz      call    aci     rst.1
rnc     pop.d   jnc     out     cnc     push.d  sui     rst.2
rc      ret     jc      in      cc      call    sbi     rst.3
rpo     pop.h   jpo     xthl    cpo     push.h  ani     rst.4
rpe     pchl    jpe     xchg    cpe     call    xri     rst.5
rp      pop.psw jp      di      cp      push.psw ori    rst.6
rm      sphl    jm      ei      cm      call    cpi     rst.7
`

// words8085 names the instructions of the opcodes in which the 8085 differs.
var words8085 = map[int]string{
	0x08: "dsub", 0x10: "arhl", 0x18: "rdel", 0x20: "rim", 0x28: "ldhi", 0x30: "sim", 0x38: "ldsi",
	0xCB: "rstv", 0xD9: "shlx", 0xDD: "jnk", 0xED: "lhlx", 0xFD: "jk",
}

// kinds has the instructions of the first parts of all words.
var kinds = map[string]api.Instr{
	"nop": {Kind: api.Nop, Length: 1}, "mov": {Kind: api.Mov, Length: 1}, "mvi": {Kind: api.Mvi, Length: 2}, "lxi": {Kind: api.Lxi, Length: 3},
	"lda": {Kind: api.Lda, Length: 3}, "sta": {Kind: api.Sta, Length: 3}, "lhld": {Kind: api.Lhld, Length: 3}, "shld": {Kind: api.Shld, Length: 3},
	"ldax": {Kind: api.Ldax, Length: 1}, "stax": {Kind: api.Stax, Length: 1}, "xchg": {Kind: api.Xchg, Length: 1},
	"add": {Kind: api.Alu, Length: 1, Op: api.Add}, "adc": {Kind: api.Alu, Length: 1, Op: api.Adc},
	"sub": {Kind: api.Alu, Length: 1, Op: api.Sub}, "sbb": {Kind: api.Alu, Length: 1, Op: api.Sbb},
	"ana": {Kind: api.Alu, Length: 1, Op: api.Ana}, "xra": {Kind: api.Alu, Length: 1, Op: api.Xra},
	"ora": {Kind: api.Alu, Length: 1, Op: api.Ora}, "cmp": {Kind: api.Alu, Length: 1, Op: api.Cmp},
	"adi": {Kind: api.Ali, Length: 2, Op: api.Add}, "aci": {Kind: api.Ali, Length: 2, Op: api.Adc},
	"sui": {Kind: api.Ali, Length: 2, Op: api.Sub}, "sbi": {Kind: api.Ali, Length: 2, Op: api.Sbb},
	"ani": {Kind: api.Ali, Length: 2, Op: api.Ana}, "xri": {Kind: api.Ali, Length: 2, Op: api.Xra},
	"ori": {Kind: api.Ali, Length: 2, Op: api.Ora}, "cpi": {Kind: api.Ali, Length: 2, Op: api.Cmp},
	"inr": {Kind: api.Inr, Length: 1}, "dcr": {Kind: api.Dcr, Length: 1}, "inx": {Kind: api.Inx, Length: 1}, "dcx": {Kind: api.Dcx, Length: 1},
	"dad": {Kind: api.Dad, Length: 1}, "daa": {Kind: api.Daa, Length: 1}, "cma": {Kind: api.Cma, Length: 1},
	"stc": {Kind: api.Stc, Length: 1}, "cmc": {Kind: api.Cmc, Length: 1},
	"rlc": {Kind: api.Rot, Length: 1, Op: 0}, "rrc": {Kind: api.Rot, Length: 1, Op: 1},
	"ral": {Kind: api.Rot, Length: 1, Op: 2}, "rar": {Kind: api.Rot, Length: 1, Op: 3},
	"jmp": {Kind: api.Jmp, Length: 3, Cond: api.CondAlways}, "jnk": {Kind: api.Jmp, Length: 3, Cond: api.CondNK}, "jk": {Kind: api.Jmp, Length: 3, Cond: api.CondK},
	"jnz": {Kind: api.Jmp, Length: 3, Cond: api.CondNZ}, "jz": {Kind: api.Jmp, Length: 3, Cond: api.CondZ},
	"jnc": {Kind: api.Jmp, Length: 3, Cond: api.CondNC}, "jc": {Kind: api.Jmp, Length: 3, Cond: api.CondC},
	"jpo": {Kind: api.Jmp, Length: 3, Cond: api.CondPO}, "jpe": {Kind: api.Jmp, Length: 3, Cond: api.CondPE},
	"jp": {Kind: api.Jmp, Length: 3, Cond: api.CondP}, "jm": {Kind: api.Jmp, Length: 3, Cond: api.CondM},
	"call": {Kind: api.Call, Length: 3, Cond: api.CondAlways},
	"cnz":  {Kind: api.Call, Length: 3, Cond: api.CondNZ}, "cz": {Kind: api.Call, Length: 3, Cond: api.CondZ},
	"cnc": {Kind: api.Call, Length: 3, Cond: api.CondNC}, "cc": {Kind: api.Call, Length: 3, Cond: api.CondC},
	"cpo": {Kind: api.Call, Length: 3, Cond: api.CondPO}, "cpe": {Kind: api.Call, Length: 3, Cond: api.CondPE},
	"cp": {Kind: api.Call, Length: 3, Cond: api.CondP}, "cm": {Kind: api.Call, Length: 3, Cond: api.CondM},
	"ret": {Kind: api.Ret, Length: 1, Cond: api.CondAlways},
	"rnz": {Kind: api.Ret, Length: 1, Cond: api.CondNZ}, "rz": {Kind: api.Ret, Length: 1, Cond: api.CondZ},
	"rnc": {Kind: api.Ret, Length: 1, Cond: api.CondNC}, "rc": {Kind: api.Ret, Length: 1, Cond: api.CondC},
	"rpo": {Kind: api.Ret, Length: 1, Cond: api.CondPO}, "rpe": {Kind: api.Ret, Length: 1, Cond: api.CondPE},
	"rp": {Kind: api.Ret, Length: 1, Cond: api.CondP}, "rm": {Kind: api.Ret, Length: 1, Cond: api.CondM},
	"rst": {Kind: api.Rst, Length: 1}, "pchl": {Kind: api.Pchl, Length: 1}, "sphl": {Kind: api.Sphl, Length: 1},
	"push": {Kind: api.Push, Length: 1}, "pop": {Kind: api.Pop, Length: 1}, "xthl": {Kind: api.Xthl, Length: 1},
	"in": {Kind: api.In, Length: 2}, "out": {Kind: api.Out, Length: 2}, "ei": {Kind: api.Ei, Length: 1}, "di": {Kind: api.Di, Length: 1},
	"hlt": {Kind: api.Hlt, Length: 1}, "rim": {Kind: api.Rim, Length: 1}, "sim": {Kind: api.Sim, Length: 1}, "dsub": {Kind: api.Dsub, Length: 1},
	"arhl": {Kind: api.Arhl, Length: 1}, "rdel": {Kind: api.Rdel, Length: 1}, "ldhi": {Kind: api.Ldhi, Length: 2}, "ldsi": {Kind: api.Ldsi, Length: 2},
	"rstv": {Kind: api.Rstv, Length: 1, Cond: api.CondV}, "shlx": {Kind: api.Shlx, Length: 1}, "lhlx": {Kind: api.Lhlx, Length: 1},
}

var registers = map[string]int{
	"b": api.RegB, "c": api.RegC, "d": api.RegD, "e": api.RegE, "h": api.RegH, "l": api.RegL, "m": api.RegM, "a": api.RegA,
}

var pairs = map[string]int{"b": api.PairB, "d": api.PairD, "h": api.PairH, "sp": api.PairSP, "psw": api.PairSP}

// meaning returns the instruction that a word names.
func meaning(word string) api.Instr {
	parts := strings.Split(word, ".")
	i, ok := kinds[parts[0]]
	if !ok {
		panic("no instruction " + word)
	}
	switch i.Kind {
	case api.Mov:
		i.Dst, i.Src = registers[parts[1]], registers[parts[2]]
	case api.Mvi, api.Inr, api.Dcr:
		i.Dst = registers[parts[1]]
	case api.Alu:
		i.Src = registers[parts[1]]
	case api.Lxi, api.Ldax, api.Stax, api.Inx, api.Dcx, api.Dad, api.Push, api.Pop:
		i.Pair = pairs[parts[1]]
	case api.Rst:
		i.N = int(parts[1][0] - '0')
	}
	return i
}

// table returns the instructions of all opcodes of a chip.
func table(chip int) []api.Instr {
	var all []api.Instr
	for _, word := range strings.Fields(words8080) {
		all = append(all, meaning(word))
	}
	if chip == api.Chip8085 {
		for op, word := range words8085 {
			all[op] = meaning(word)
		}
	}
	return all
}

// leasts returns the least opcode of each instruction of a chip.
func leasts(chip int) map[api.Instr]byte {
	least := map[api.Instr]byte{}
	for op, i := range table(chip) {
		if _, ok := least[i]; !ok {
			least[i] = byte(op)
		}
	}
	return least
}

// fields returns the fields of an instruction, so that a test can change each of them.
func fields(i *api.Instr) []*int {
	return []*int{&i.Kind, &i.Length, &i.Dst, &i.Src, &i.Pair, &i.Op, &i.Cond, &i.N}
}

// checkEncode compares Encode with the least opcodes of a chip, or with false where there is none.
func checkEncode(t *testing.T, chip int, least map[api.Instr]byte, i api.Instr) {
	t.Helper()
	want, has := least[i]
	if got, ok := opcode.Encode(chip, i); got != want || ok != has {
		t.Errorf("Encode(%d, %+v) = %#02x, %t, want %#02x, %t", chip, i, got, ok, want, has)
	}
}

// P9.1, P9.2 and R3: calls at the same time, of which many are the first ones, have the same results.
func TestCallsAtTheSameTime(t *testing.T) {
	var all sync.WaitGroup
	for n := range 16 {
		all.Go(func() {
			chip := chips[n%2]
			for op, want := range table(chip) {
				if got := opcode.Decode(chip, byte(op)); got != want {
					t.Errorf("Decode(%d, %#02x) = %+v, want %+v", chip, op, got, want)
				}
				if _, ok := opcode.Encode(chip, want); !ok {
					t.Errorf("Encode(%d, %+v) finds nothing", chip, want)
				}
			}
		})
	}
	all.Wait()
}

// P9.1
func TestDecodeExamples(t *testing.T) {
	for _, x := range []struct {
		chip int
		op   byte
		want api.Instr
	}{
		{api.Chip8080, 0x7E, api.Instr{Kind: 2, Length: 1, Dst: 7, Src: 6}}, {api.Chip8085, 0x7E, api.Instr{Kind: 2, Length: 1, Dst: 7, Src: 6}},
		{api.Chip8080, 0x76, api.Instr{Kind: 37, Length: 1}}, {api.Chip8085, 0x76, api.Instr{Kind: 37, Length: 1}},
		{api.Chip8080, 0x00, api.Instr{Kind: 1, Length: 1}}, {api.Chip8085, 0x00, api.Instr{Kind: 1, Length: 1}},
		{api.Chip8080, 0x75, api.Instr{Kind: 2, Length: 1, Dst: 6, Src: 5}}, {api.Chip8080, 0x77, api.Instr{Kind: 2, Length: 1, Dst: 6, Src: 7}},
		{api.Chip8080, 0x31, api.Instr{Kind: 4, Length: 3, Pair: 3}}, {api.Chip8080, 0x39, api.Instr{Kind: 18, Length: 1, Pair: 3}},
		{api.Chip8080, 0x12, api.Instr{Kind: 10, Length: 1, Pair: 1}}, {api.Chip8080, 0x1A, api.Instr{Kind: 9, Length: 1, Pair: 1}},
		{api.Chip8080, 0x32, api.Instr{Kind: 6, Length: 3}}, {api.Chip8080, 0x3A, api.Instr{Kind: 5, Length: 3}},
		{api.Chip8080, 0x36, api.Instr{Kind: 3, Length: 2, Dst: 6}}, {api.Chip8080, 0x1F, api.Instr{Kind: 23, Length: 1, Op: 3}},
		{api.Chip8080, 0xBE, api.Instr{Kind: 12, Length: 1, Op: 7, Src: 6}}, {api.Chip8080, 0xFE, api.Instr{Kind: 13, Length: 2, Op: 7}},
		{api.Chip8080, 0xC0, api.Instr{Kind: 26, Length: 1}}, {api.Chip8080, 0xC9, api.Instr{Kind: 26, Length: 1, Cond: 11}},
		{api.Chip8080, 0xFA, api.Instr{Kind: 24, Length: 3, Cond: 7}}, {api.Chip8080, 0xFC, api.Instr{Kind: 25, Length: 3, Cond: 7}},
		{api.Chip8080, 0xF1, api.Instr{Kind: 31, Length: 1, Pair: 3}}, {api.Chip8080, 0xF5, api.Instr{Kind: 30, Length: 1, Pair: 3}},
		{api.Chip8080, 0xFF, api.Instr{Kind: 27, Length: 1, N: 7}}, {api.Chip8080, 0xDB, api.Instr{Kind: 33, Length: 2}},
		{api.Chip8080, 0x20, api.Instr{Kind: 1, Length: 1}}, {api.Chip8085, 0x20, api.Instr{Kind: 38, Length: 1}},
		{api.Chip8080, 0x28, api.Instr{Kind: 1, Length: 1}}, {api.Chip8085, 0x28, api.Instr{Kind: 43, Length: 2}},
		{api.Chip8080, 0xCB, api.Instr{Kind: 24, Length: 3, Cond: 11}}, {api.Chip8085, 0xCB, api.Instr{Kind: 45, Length: 1, Cond: 10}},
		{api.Chip8080, 0xDD, api.Instr{Kind: 25, Length: 3, Cond: 11}}, {api.Chip8085, 0xDD, api.Instr{Kind: 24, Length: 3, Cond: 8}},
		{api.Chip8080, 0xFD, api.Instr{Kind: 25, Length: 3, Cond: 11}}, {api.Chip8085, 0xFD, api.Instr{Kind: 24, Length: 3, Cond: 9}},
		{-2, 0xED, api.Instr{Kind: 25, Length: 3, Cond: 11}}, {3, 0xD9, api.Instr{Kind: 26, Length: 1, Cond: 11}},
	} {
		if got := opcode.Decode(x.chip, x.op); got != x.want {
			t.Errorf("Decode(%d, %#02x) = %+v, want %+v", x.chip, x.op, got, x.want)
		}
	}
}

// P9.1
func TestDecodeOfAllOpcodes(t *testing.T) {
	for _, chip := range chips {
		all := table(chip)
		if len(all) != 256 {
			t.Fatalf("the test names %d opcodes", len(all))
		}
		for op, want := range all {
			if got := opcode.Decode(chip, byte(op)); got != want {
				t.Errorf("Decode(%d, %#02x) = %+v, want %+v", chip, op, got, want)
			}
		}
	}
}

// P9.2
func TestEncodeExamples(t *testing.T) {
	for _, x := range []struct {
		chip int
		i    api.Instr
		want byte
		ok   bool
	}{
		{api.Chip8080, api.Instr{Kind: 24, Length: 3, Cond: 11}, 0xC3, true}, {api.Chip8085, api.Instr{Kind: 24, Length: 3, Cond: 11}, 0xC3, true},
		{api.Chip8080, api.Instr{Kind: 1, Length: 1}, 0x00, true}, {api.Chip8085, api.Instr{Kind: 1, Length: 1}, 0x00, true},
		{api.Chip8080, api.Instr{Kind: 2, Length: 1, Dst: 7, Src: 6}, 0x7E, true}, {api.Chip8080, api.Instr{Kind: 37, Length: 1}, 0x76, true},
		{api.Chip8080, api.Instr{Kind: 26, Length: 1, Cond: 11}, 0xC9, true}, {api.Chip8080, api.Instr{Kind: 25, Length: 3, Cond: 11}, 0xCD, true},
		{api.Chip8080, api.Instr{Kind: 27, Length: 1, N: 7}, 0xFF, true}, {-2, api.Instr{Kind: 25, Length: 3, Cond: 11}, 0xCD, true},
		{api.Chip8085, api.Instr{Kind: 24, Length: 3, Cond: 8}, 0xDD, true}, {api.Chip8080, api.Instr{Kind: 24, Length: 3, Cond: 8}, 0, false},
		{api.Chip8085, api.Instr{Kind: 24, Length: 3, Cond: 9}, 0xFD, true}, {3, api.Instr{Kind: 24, Length: 3, Cond: 9}, 0, false},
		{api.Chip8085, api.Instr{Kind: 45, Length: 1, Cond: 10}, 0xCB, true}, {api.Chip8085, api.Instr{Kind: 45, Length: 1}, 0, false},
		{api.Chip8085, api.Instr{Kind: 38, Length: 1}, 0x20, true}, {api.Chip8080, api.Instr{Kind: 38, Length: 1}, 0, false},
		{api.Chip8080, api.Instr{}, 0, false}, {api.Chip8085, api.Instr{}, 0, false},
		{api.Chip8080, api.Instr{Kind: 1}, 0, false}, {api.Chip8080, api.Instr{Kind: 1, Length: 2}, 0, false},
		{api.Chip8080, api.Instr{Kind: 1, Length: 1, N: 1}, 0, false}, {api.Chip8080, api.Instr{Kind: 2, Length: 1, Dst: 6, Src: 6}, 0, false},
		{api.Chip8080, api.Instr{Kind: 10, Length: 1, Pair: 2}, 0, false}, {api.Chip8080, api.Instr{Kind: 23, Length: 1, Op: 4}, 0, false},
		{api.Chip8085, api.Instr{Kind: 25, Length: 3, Cond: 9}, 0, false}, {api.Chip8085, api.Instr{Kind: 26, Length: 1, Cond: 10}, 0, false},
		{api.Chip8080, api.Instr{Kind: 27, Length: 1, N: 8}, 0, false}, {api.Chip8080, api.Instr{Kind: 27, Length: 1, N: -1}, 0, false},
		{api.Chip8085, api.Instr{Kind: 48, Length: 1}, 0, false}, {api.Chip8085, api.Instr{Kind: -1, Length: 1}, 0, false},
	} {
		if got, ok := opcode.Encode(x.chip, x.i); got != x.want || ok != x.ok {
			t.Errorf("Encode(%d, %+v) = %#02x, %t, want %#02x, %t", x.chip, x.i, got, ok, x.want, x.ok)
		}
	}
}

// P9.2: the instructions of both chips, on all chips.
func TestEncodeOfAllInstructions(t *testing.T) {
	for _, chip := range chips {
		least := leasts(chip)
		for _, owner := range []int{api.Chip8080, api.Chip8085} {
			for _, i := range table(owner) {
				checkEncode(t, chip, least, i)
			}
		}
	}
}

// P9.2: all kinds and lengths with one other field.
func TestEncodeOfAllKinds(t *testing.T) {
	for _, chip := range []int{api.Chip8080, api.Chip8085} {
		least := leasts(chip)
		for kind := range 50 {
			for length := range 5 {
				for field := 2; field < 8; field++ {
					for value := range 13 {
						i := api.Instr{Kind: kind, Length: length}
						*fields(&i)[field] = value
						checkEncode(t, chip, least, i)
					}
				}
			}
		}
	}
}

// P9.2: an instruction with one field that is changed, also to numbers that agree with a valid one in their low bits alone.
func TestEncodeOfChangedFields(t *testing.T) {
	for _, chip := range []int{api.Chip8080, api.Chip8085} {
		least := leasts(chip)
		for _, i := range table(chip) {
			for n, field := range fields(&i) {
				v := *field
				for _, value := range []int{v + 1, v - 1, v + 4, v + 8, v + 256, v - 256, v + 1<<32, -v, math.MaxInt, math.MinInt, math.MinInt + v} {
					changed := i
					*fields(&changed)[n] = value
					checkEncode(t, chip, least, changed)
				}
			}
		}
	}
}

// P9.3
func TestEncodeInvertsDecodeOnThe8085(t *testing.T) {
	for op := range 256 {
		i := opcode.Decode(api.Chip8085, byte(op))
		if got, ok := opcode.Encode(api.Chip8085, i); int(got) != op || !ok {
			t.Errorf("Encode of %+v, the instruction of %#02x, is %#02x, %t", i, op, got, ok)
		}
	}
}

// P9.3
func TestEncodeInvertsDecodeOnThe8080(t *testing.T) {
	lesser := map[int]int{
		0x08: 0x00, 0x10: 0x00, 0x18: 0x00, 0x20: 0x00, 0x28: 0x00, 0x30: 0x00, 0x38: 0x00,
		0xCB: 0xC3, 0xD9: 0xC9, 0xDD: 0xCD, 0xED: 0xCD, 0xFD: 0xCD,
	}
	for _, chip := range others {
		for op := range 256 {
			want, repeated := lesser[op]
			if !repeated {
				want = op
			}
			i := opcode.Decode(chip, byte(op))
			if got, ok := opcode.Encode(chip, i); int(got) != want || !ok {
				t.Errorf("Encode(%d) of %+v, the instruction of %#02x, is %#02x, %t, want %#02x", chip, i, op, got, ok, want)
			}
		}
	}
}

// P9.1 to P9.3: the two tables hold the instructions of their chips after a call.
func TestTables(t *testing.T) {
	opcode.Decode(api.Chip8080, 0)
	for chip, entries := range map[int]*[256]api.Instr{api.Chip8080: opcode.Table8080, api.Chip8085: opcode.Table8085} {
		for op, want := range table(chip) {
			if entries[op] != want {
				t.Errorf("the entry of %#02x in the table of the chip %d is %+v, want %+v", op, chip, entries[op], want)
			}
		}
	}
}

// P9.1 to P9.3: the results come from a function, whatever the tables hold.
func TestResultsDoNotDependOnTheTables(t *testing.T) {
	opcode.Decode(api.Chip8080, 0)
	for _, entries := range []*[256]api.Instr{opcode.Table8080, opcode.Table8085} {
		kept := *entries
		defer func() { *entries = kept }()
		for op := range entries {
			entries[op] = api.Instr{Kind: api.Mvi, Length: 2, Dst: op & 7}
		}
	}
	for _, chip := range chips {
		least := leasts(chip)
		for op, want := range table(chip) {
			if got := opcode.Decode(chip, byte(op)); got != want {
				t.Errorf("Decode(%d, %#02x) = %+v, want %+v", chip, op, got, want)
			}
			checkEncode(t, chip, least, want)
		}
		checkEncode(t, chip, least, api.Instr{})
	}
}

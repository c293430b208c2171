package listing_test

import (
	"bytes"
	"math"
	"slices"
	"strconv"
	"strings"
	"testing"

	"tstate/api"
	"tstate/listing"
)

// others are numbers that are not api.Chip8085, so that they count as the 8080.
var others = []int{api.Chip8080, 0, 3, 7, -1, -2, api.Chip8085 + 256, math.MaxInt, math.MinInt, math.MinInt + api.Chip8085}

var chips = append([]int{api.Chip8085}, others...)

var both = []int{api.Chip8080, api.Chip8085}

// texts8080 has the texts of all opcodes of the 8080 in their order, eight in a line, with _ for the blank, # for a byte
// and ## for a word.
const texts8080 = `
nop     lxi_b,##  stax_b  inx_b   inr_b   dcr_b   mvi_b,# rlc
nop     dad_b     ldax_b  dcx_b   inr_c   dcr_c   mvi_c,# rrc
nop     lxi_d,##  stax_d  inx_d   inr_d   dcr_d   mvi_d,# ral
nop     dad_d     ldax_d  dcx_d   inr_e   dcr_e   mvi_e,# rar
nop     lxi_h,##  shld_## inx_h   inr_h   dcr_h   mvi_h,# daa
nop     dad_h     lhld_## dcx_h   inr_l   dcr_l   mvi_l,# cma
nop     lxi_sp,## sta_##  inx_sp  inr_m   dcr_m   mvi_m,# stc
nop     dad_sp    lda_##  dcx_sp  inr_a   dcr_a   mvi_a,# cmc
mov_b,b mov_b,c mov_b,d mov_b,e mov_b,h mov_b,l mov_b,m mov_b,a
mov_c,b mov_c,c mov_c,d mov_c,e mov_c,h mov_c,l mov_c,m mov_c,a
mov_d,b mov_d,c mov_d,d mov_d,e mov_d,h mov_d,l mov_d,m mov_d,a
mov_e,b mov_e,c mov_e,d mov_e,e mov_e,h mov_e,l mov_e,m mov_e,a
mov_h,b mov_h,c mov_h,d mov_h,e mov_h,h mov_h,l mov_h,m mov_h,a
mov_l,b mov_l,c mov_l,d mov_l,e mov_l,h mov_l,l mov_l,m mov_l,a
mov_m,b mov_m,c mov_m,d mov_m,e mov_m,h mov_m,l hlt     mov_m,a
mov_a,b mov_a,c mov_a,d mov_a,e mov_a,h mov_a,l mov_a,m mov_a,a
add_b   add_c   add_d   add_e   add_h   add_l   add_m   add_a
adc_b   adc_c   adc_d   adc_e   adc_h   adc_l   adc_m   adc_a
sub_b   sub_c   sub_d   sub_e   sub_h   sub_l   sub_m   sub_a
sbb_b   sbb_c   sbb_d   sbb_e   sbb_h   sbb_l   sbb_m   sbb_a
ana_b   ana_c   ana_d   ana_e   ana_h   ana_l   ana_m   ana_a
xra_b   xra_c   xra_d   xra_e   xra_h   xra_l   xra_m   xra_a
ora_b   ora_c   ora_d   ora_e   ora_h   ora_l   ora_m   ora_a
cmp_b   cmp_c   cmp_d   cmp_e   cmp_h   cmp_l   cmp_m   cmp_a
rnz     pop_b   jnz_##  jmp_##  cnz_##  push_b  adi_#   rst_0
rz      ret     jz_##   jmp_##  cz_##   call_## aci_#   rst_1
rnc     pop_d   jnc_##  out_#   cnc_##  push_d  sui_#   rst_2
rc      ret     jc_##   in_#    cc_##   call_## sbi_#   rst_3
rpo     pop_h   jpo_##  xthl    cpo_##  push_h  ani_#   rst_4
rpe     pchl    jpe_##  xchg    cpe_##  call_## xri_#   rst_5
rp      pop_psw jp_##   di      cp_##   push_psw ori_#  rst_6
rm      sphl    jm_##   ei      cm_##   call_## cpi_#   rst_7
`

// texts8085 has the texts of the opcodes in which the 8085 differs.
var texts8085 = map[int]string{
	0x08: "dsub", 0x10: "arhl", 0x18: "rdel", 0x20: "rim", 0x28: "ldhi_#", 0x30: "sim", 0x38: "ldsi_#",
	0xCB: "rstv", 0xD9: "shlx", 0xDD: "jnk_##", 0xED: "lhlx", 0xFD: "jk_##",
}

// A form is the text of an opcode up to its number, which has size bytes.
type form struct {
	head string
	size int
}

// forms returns the forms of all opcodes of a chip.
func forms(chip int) (all []form) {
	texts := strings.Fields(texts8080)
	if chip == api.Chip8085 {
		for op, text := range texts8085 {
			texts[op] = text
		}
	}
	for _, text := range texts {
		head := strings.ReplaceAll(strings.TrimRight(text, "#"), "_", " ")
		all = append(all, form{head, strings.Count(text, "#")})
	}
	return all
}

// text returns the text of a form with the number v.
func (f form) text(v int) string {
	if f.size == 0 {
		return f.head
	}
	digits := strconv.FormatInt(int64(v), 16)
	return f.head + "0x" + strings.Repeat("0", 2*f.size-len(digits)) + digits
}

// code returns the bytes of a form with the number v.
func (f form) code(op byte, v int) []byte {
	return []byte{op, byte(v), byte(v / 256)}[:1+f.size]
}

// values returns numbers for a form: all for a byte, and for a word all pairs of a byte with one of some others.
func (f form) values() (all []int) {
	switch f.size {
	case 0:
		return []int{0}
	case 1:
		for v := range 256 {
			all = append(all, v)
		}
		return all
	}
	for v := range 256 {
		for _, w := range []int{0x00, 0x9A} {
			all = append(all, v*256+w, w*256+v)
		}
	}
	return all
}

// least returns the least opcode with each form of a chip.
func least(chip int) map[form]byte {
	ops := map[form]byte{}
	for op, f := range forms(chip) {
		if _, ok := ops[f]; !ok {
			ops[f] = byte(op)
		}
	}
	return ops
}

// expected returns what Parse must return: it tries each size of a number at the end of s.
func expected(ops map[form]byte, s string) ([]byte, api.Errno) {
	for size := range 3 {
		cut := len(s)
		if size > 0 {
			cut -= 2 + 2*size
		}
		if cut < 0 {
			continue
		}
		f := form{s[:cut], size}
		op, ok := ops[f]
		if !ok {
			continue
		}
		if size == 0 {
			return []byte{op}, api.OK
		}
		v, err := strconv.ParseUint(s[cut+2:], 16, 16)
		if err == nil && f.text(int(v)) == s {
			return f.code(op, int(v)), api.OK
		}
	}
	return nil, api.ErrSyntax
}

// checkFormat compares Format with the text of a form, of whose bytes others follow.
func checkFormat(t *testing.T, chip int, b []byte, text string, length int) {
	t.Helper()
	if s, n, e := listing.Format(chip, b); s != text || n != length || e != api.OK {
		t.Errorf("Format(%d, % x) = %q, %d, %d, want %q, %d", chip, b, s, n, e, text, length)
	}
}

func checkParse(t *testing.T, chip int, s string, want []byte, wantError api.Errno) {
	t.Helper()
	if b, e := listing.Parse(chip, s); !bytes.Equal(b, want) || e != wantError {
		t.Errorf("Parse(%d, %q) = % x, %d, want % x, %d", chip, s, b, e, want, wantError)
	}
}

// P11.1 and P11.2: the examples of the chapter, and others.
func TestExamples(t *testing.T) {
	for _, x := range []struct {
		chip int
		b    []byte
		s    string
	}{
		{api.Chip8080, []byte{0x3A, 0x34, 0x12}, "lda 0x1234"}, {api.Chip8085, []byte{0x3A, 0x34, 0x12}, "lda 0x1234"},
		{api.Chip8085, []byte{0xDD, 0x10, 0x00}, "jnk 0x0010"}, {api.Chip8085, []byte{0xFD, 0xFF, 0x0A}, "jk 0x0aff"},
		{api.Chip8080, []byte{0x00}, "nop"}, {api.Chip8080, []byte{0x7E}, "mov a,m"}, {api.Chip8080, []byte{0x77}, "mov m,a"},
		{api.Chip8080, []byte{0x3E, 0x0F}, "mvi a,0x0f"}, {api.Chip8080, []byte{0x31, 0xCD, 0xAB}, "lxi sp,0xabcd"},
		{api.Chip8080, []byte{0x39}, "dad sp"}, {api.Chip8080, []byte{0xF5}, "push psw"}, {api.Chip8080, []byte{0xF1}, "pop psw"},
		{api.Chip8080, []byte{0xBE}, "cmp m"}, {api.Chip8080, []byte{0xFE, 0x90}, "cpi 0x90"}, {api.Chip8080, []byte{0xF4, 1, 2}, "cp 0x0201"},
		{api.Chip8080, []byte{0xDC, 0, 1}, "cc 0x0100"}, {api.Chip8080, []byte{0xC9}, "ret"}, {api.Chip8080, []byte{0xF8}, "rm"},
		{api.Chip8080, []byte{0xEF}, "rst 5"}, {api.Chip8080, []byte{0xD3, 0xFF}, "out 0xff"}, {api.Chip8085, []byte{0xCB}, "rstv"},
		{api.Chip8085, []byte{0x28, 0x05}, "ldhi 0x05"}, {-2, []byte{0x17}, "ral"},
	} {
		checkFormat(t, x.chip, x.b, x.s, len(x.b))
		checkParse(t, x.chip, x.s, x.b, api.OK)
	}
	checkParse(t, api.Chip8080, "jnk 0x0010", nil, api.ErrSyntax)
}

// P11.1: all opcodes, also with bytes behind the instruction.
func TestFormatOfAllOpcodes(t *testing.T) {
	for _, chip := range chips {
		for op, f := range forms(chip) {
			for _, v := range []int{0x00, 0x07, 0x9B, 0xFF} {
				v |= v << 9 & 0xFF00
				b := f.code(byte(op), v)
				want := f.text(v & (1<<(8*f.size) - 1))
				checkFormat(t, chip, b, want, len(b))
				checkFormat(t, chip, append(slices.Clone(b), 0x3A, 0xCD, 0x76), want, len(b))
			}
		}
	}
}

// P11.1: the bytes of the operand, the second one low and the third one high.
func TestFormatOfAllOperands(t *testing.T) {
	for _, chip := range both {
		for op, f := range forms(chip) {
			for _, v := range f.values() {
				checkFormat(t, chip, f.code(byte(op), v), f.text(v), 1+f.size)
			}
		}
	}
}

// P11.1: too few bytes, also if the slice has spare capacity for the others.
func TestFormatOfTooFewBytes(t *testing.T) {
	for _, chip := range chips {
		short := [][]byte{nil, {}, []byte{0x00, 0x01, 0x02}[:0]}
		for op, f := range forms(chip) {
			for length := 1; length < 1+f.size; length++ {
				short = append(short, []byte{byte(op), 0x12, 0x34}[:length], slices.Clip([]byte{byte(op), 0x12}[:length]))
			}
		}
		for _, b := range short {
			if s, n, e := listing.Format(chip, b); s != "" || n != 0 || e != api.ErrArgument {
				t.Errorf("Format(%d, % x) = %q, %d, %d, want an ErrArgument", chip, b, s, n, e)
			}
		}
	}
}

// P11.1 and R2: the bytes are left as they are, in the spare capacity too.
func TestFormatLeavesItsArgument(t *testing.T) {
	for _, chip := range both {
		for op, f := range forms(chip) {
			b := []byte{byte(op), 0x12, 0x34, 0x56, 0x78}
			kept := slices.Clone(b)
			listing.Format(chip, b[:1])
			listing.Format(chip, b[:1+f.size])
			if !bytes.Equal(b, kept) {
				t.Errorf("Format(%d) changes % x to % x", chip, kept, b)
			}
		}
	}
}

// P11.2: the texts of both chips, on all chips.
func TestParseOfAllTexts(t *testing.T) {
	for _, chip := range chips {
		ops := least(chip)
		for _, owner := range both {
			for _, f := range forms(owner) {
				for _, v := range []int{0x00, 0xA7, 0xFF} {
					v *= max(1, (f.size-1)*0x101)
					want, e := expected(ops, f.text(v))
					checkParse(t, chip, f.text(v), want, e)
				}
			}
		}
	}
}

// P11.2: the instructions of the 8085 alone.
func TestParseOfTheTextsOfThe8085(t *testing.T) {
	for _, chip := range others {
		for _, s := range []string{
			"dsub", "arhl", "rdel", "rim", "sim", "rstv", "shlx", "lhlx", "ldhi 0x05", "ldsi 0x05", "jnk 0x0010", "jk 0x0010",
		} {
			checkParse(t, chip, s, nil, api.ErrSyntax)
			if _, e := listing.Parse(api.Chip8085, s); e != api.OK {
				t.Errorf("Parse(%q) on the 8085 gives the error %d", s, e)
			}
		}
	}
}

// P11.2: texts that are not those of an instruction.
func TestParseOfOtherTexts(t *testing.T) {
	for _, chip := range chips {
		for _, s := range []string{
			"", " ", ",", "0x00", " nop", "nop ", "nop\n", "\tnop", "nop\x00", "nop,", "nop b", "nop 0x00", "no", "nopp", "NOP", "Nop", "nóp", "\xff",
			"mov", "mov ", "mov b", "mov b,", "mov ,b", "mov ,", "mov bc", "mov b c", "mov  b,c", "mov b, c", "mov b ,c", "mov b,c ", "mov b,c,d", "mov b,,c",
			"mov,b,c", "mov b,C", "mov B,c", "mov m,m", "mov b,sp", "mov 0,1", "mov b,0x00", "mov b,f", "MOV b,c", "mov\tb,c",
			"mvi a", "mvi a,", "mvi ,0x00", "mvi 0x00", "mvi a,15", "mvi a,0f", "mvi a,0xF0", "mvi a,0X0f", "mvi a,0x0f0", "mvi a,0x0", "mvi a,0x", "mvi a,0xg0",
			"mvi a,0x0 ", "mvi a,0x+1", "mvi a,0x-1", "mvi a,0x_1", "mvi a,00x1", "mvi a,x0f", "mvi a 0x0f", "mvi a,0x000f", "mvi a,b", "mvi sp,0x00", "mvi a,0x0f,", "mvi a,0x0f,b",
			"lxi psw,0x0000", "lxi a,0x0000", "lxi c,0x0000", "lxi b,0x00", "lxi b", "lxi 0x0000", "lxi b,0x00000", "lxi b,0x000g", "lxi b,0xABCD", "lxi SP,0x0000",
			"lda", "lda ", "lda 0x12", "lda 1234", "lda 0x12345", "lda 0x12g4", "lda 0x1234 ", "lda 0x1234,", "lda ,0x1234", "lda b,0x1234", "lda  0x1234", "lda 0x1 34",
			"ldax h", "ldax sp", "ldax psw", "ldax a", "stax h", "stax sp", "inx psw", "dcx psw", "dad psw", "push sp", "pop sp", "push a", "push", "pop b,d",
			"inr", "inr sp", "inr b,c", "dcr 0", "add", "add 0x01", "add b,c", "add sp", "adi b", "adi 1", "adi 0x0001", "adi a,0x01", "cmp", "cpi",
			"rst", "rst ", "rst 8", "rst 07", "rst -1", "rst 0x00", "rst b", "rst 0,1", "rst 77", "rst٣",
			"j 0x0000", "jv 0x0000", "jnv 0x0000", "jmp", "jmp 0x00", "jnz", "jmpz 0x0000", "jn 0x0000", "cnk 0x0000", "ck 0x0000", "cv 0x0000", "c 0x0000", "call", "callnz 0x0000",
			"r", "rv", "rk", "rnk", "ret 0x0000", "retnz", "rnz 0x0000", "rstv 0", "rstv b", "in", "in b", "in 0x0010", "in 0x1", "out 0x100", "ldhi", "ldsi 0x0005",
			"rlc a", "ral 1", "hlt 0", "di 0", "xchg d,h", "pchl h", "add  b", "nop;nop", "nop nop", "mov b,cmov b,c",
		} {
			checkParse(t, chip, s, nil, api.ErrSyntax)
		}
	}
}

// P11.2: all texts with one character that is left out, put in or replaced, which are texts of others or of none.
func TestParseOfChangedTexts(t *testing.T) {
	const characters = "abcdefghijklmnopqrstuvwxyz0123456789 ,ABMX_-+#\x00\n\xff"
	for _, chip := range both {
		ops := least(chip)
		for f := range least(api.Chip8085) {
			s := f.text(0x1F * max(1, (f.size-1)*0x0A1))
			for at := 0; at <= len(s); at++ {
				for _, c := range []byte(characters) {
					changed := []string{s[:at] + string([]byte{c}) + s[at:]}
					if at < len(s) {
						changed = append(changed, s[:at]+string([]byte{c})+s[at+1:])
					}
					for _, text := range changed {
						want, e := expected(ops, text)
						checkParse(t, chip, text, want, e)
					}
				}
				if at < len(s) {
					want, e := expected(ops, s[:at]+s[at+1:])
					checkParse(t, chip, s[:at]+s[at+1:], want, e)
				}
				want, e := expected(ops, s[:at])
				checkParse(t, chip, s[:at], want, e)
			}
		}
	}
}

// P11.2: each mnemonic with each list of operands.
func TestParseOfAllCombinations(t *testing.T) {
	one := []string{"b", "c", "d", "e", "h", "l", "m", "a", "sp", "psw", "0", "3", "7", "8", "0x00", "0xfe", "0x0000", "0x3fed", ""}
	lists := []string{""}
	for _, first := range one {
		lists = append(lists, " "+first)
		for _, second := range one {
			lists = append(lists, " "+first+","+second)
		}
	}
	names := map[string]bool{"": true, "jv": true, "ck": true, "rnk": true}
	for f := range least(api.Chip8080) {
		names[strings.Fields(f.head)[0]] = true
	}
	for f := range least(api.Chip8085) {
		names[strings.Fields(f.head)[0]] = true
	}
	for _, chip := range both {
		ops := least(chip)
		for name := range names {
			for _, list := range lists {
				want, e := expected(ops, name+list)
				checkParse(t, chip, name+list, want, e)
			}
		}
	}
}

// P11.2 and R2: each result has memory of its own.
func TestParseReturnsNewMemory(t *testing.T) {
	for _, s := range []string{"nop", "mvi b,0x12", "lda 0x3456"} {
		first, _ := listing.Parse(api.Chip8085, s)
		kept := slices.Clone(first)
		full := first[:cap(first)]
		for n := range full {
			full[n] = 0xEE
		}
		if second, _ := listing.Parse(api.Chip8085, s); !bytes.Equal(second, kept) {
			t.Errorf("Parse(%q) gives % x after % x", s, second, kept)
		}
	}
}

// P11.3: Parse of Format gives the bytes of the instruction, on the 8080 with the least opcode.
func TestParseOfFormat(t *testing.T) {
	lesser := map[byte]byte{
		0x08: 0x00, 0x10: 0x00, 0x18: 0x00, 0x20: 0x00, 0x28: 0x00, 0x30: 0x00, 0x38: 0x00,
		0xCB: 0xC3, 0xD9: 0xC9, 0xDD: 0xCD, 0xED: 0xCD, 0xFD: 0xCD,
	}
	for _, chip := range both {
		for op, f := range forms(chip) {
			for _, v := range f.values() {
				b := f.code(byte(op), v)
				s, n, e := listing.Format(chip, append(slices.Clone(b), 0x55))
				if n != len(b) || e != api.OK {
					t.Errorf("Format(%d, % x) has %d bytes and the error %d", chip, b, n, e)
				}
				if to, ok := lesser[b[0]]; ok && chip != api.Chip8085 {
					b[0] = to
				}
				checkParse(t, chip, s, b, api.OK)
			}
		}
	}
}

// P11.3: Format of Parse gives the text.
func TestFormatOfParse(t *testing.T) {
	for _, chip := range both {
		for f := range least(chip) {
			for _, v := range f.values() {
				s := f.text(v)
				b, e := listing.Parse(chip, s)
				if e != api.OK {
					t.Fatalf("Parse(%d, %q) gives the error %d", chip, s, e)
				}
				checkFormat(t, chip, b, s, len(b))
			}
		}
	}
}

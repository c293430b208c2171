package dump_test

import (
	"slices"
	"strings"
	"testing"

	"tstate/api"
	"tstate/dump"
)

// wrong are lines that are not of the form of a record.
var wrong = []string{
	"", " ", "  ", "\t", "\r", "\x00", "x", "t", "?", "t1", "t1 ", "t1 0000", "t1 0000 ", "t1 0000 0", "0000 00", " 0000 00", "  0000 00",
	"? 0000 00", "?? 0000 00", "0 0000 00", "1 0000 00", "7 0000 00", "t 0000 00", "t0 0000 00", "t7 0000 00", "t8 0000 00", "t9 0000 00",
	"t10 0000 00", "t11 0000 00", "t01 0000 00", "t-1 0000 00", "t1t1 0000 00", "T1 0000 00", "TW 0000 00", "Thalt 0000 00", "treset1 0000 00",
	"tW 0000 00", "twait 0000 00", "thold 0000 00", "tha 0000 00", "thal 0000 00", "thalt0 0000 00", "rese 0000 00", "trese 0000 00", "reset 0000 00",
	"halt 0000 00", "wait 0000 00", "t\xff 0000 00", "t１ 0000 00", "t1\x00 0000 00", "t2,t1 0000 00", "t1 t1 0000 00",
	" t1 0000 00", "\tt1 0000 00", "\ufefft1 0000 00", "t1  0000 00", "t1 0000  00", "t1\t0000 00", "t1 0000\t00", "t1,0000,00", "t1:0000 00", "t10000 00", "t1 000000",
	"t1 0000 00 ", "t1 0000 00  ", "t1 0000 00\t", "t1 0000 00\r", "t1 0000 00\x00", "t1 0000 00\v", "t1 0000 00.", "t1 0000 00,", "t1 0000 00;",
	"t1  00", "t1 0 00", "t1 00 00", "t1 000 00", "t1 00000 00", "t1 000000 00", "t1 0x00 00", "t1 0x0000 00", "t1 -000 00", "t1 +000 00", "t1 0_00 00", "t1 00 0 00",
	"t1 000A 00", "t1 A000 00", "t1 ABCD 00", "t1 000g 00", "t1 000G 00", "t1 00/0 00", "t1 00:0 00", "t1 00`0 00", "t1 00@0 00", "t1 000\x00 00", "t1 000h 00", "t1 ٠٠ 00", "t1 ٠٠٠٠ 00", "t1 é00 00",
	"t1 0000 000", "t1 0000 0000", "t1 0000 a", "t1 0000 A0", "t1 0000 0A", "t1 0000 0g", "t1 0000 g0", "t1 0000 0x", "t1 0000 -1", "t1 0000 +1", "t1 0000 0x00", "t1 0000  0", "t1 0000 0 0", "t1 0000 é", "t1 0000 00 00",
	"t1 0000 sync", "t1 sync", "sync", "t1 0000 00sync", "t1 0000 00 sync ", "t1 0000 00  sync", "t1 0000 00 sync  dbin", "t1 0000 00 syncdbin", "t1 0000 00 sync,dbin", "t1 0000 00\tsync", "t1 0000 00 sync\tdbin",
	"t1 0000 00 sync sync", "t1 0000 00 float float", "t1 0000 00 dbin sync", "t1 0000 00 float sync", "t1 0000 00 s0 s1", "t1 0000 00 sync wait dbin", "t1 0000 00 sync dbin sync",
	"t1 0000 00 foo", "t1 0000 00 sync foo", "t1 0000 00 foo sync", "t1 0000 00 sync foo dbin", "t1 0000 00 syn", "t1 0000 00 synch", "t1 0000 00 ync", "t1 0000 00 SYNC", "t1 0000 00 Sync", "t1 0000 00 IOM", "t1 0000 00 S1",
	"t1 0000 00 s", "t1 0000 00 s2", "t1 0000 00 s10", "t1 0000 00 s1s0", "t1 0000 00 int", "t1 0000 00 intr", "t1 0000 00 rdy", "t1 0000 00 w", "t1 0000 00 hold", "t1 0000 00 hld", "t1 0000 00 floats", "t1 0000 00 io/m",
	"t1 0000 00 !sync", "t1 0000 00 -sync", "t1 0000 00 sync=1", "t1 0000 00 sync\x00", "t1 0000 00 sync\r", "t1 0000 00 t1", "t1 0000 00 t1 0000 00", "t1 0000 00 0", "t1 0000 00 1", "t1 0000 00 true", "t1 0000 00 # a comment",
	"# t1 0000 00", "00 0000 t1", "t1 00 0000", "0000 t1 00",
}

// rightLines are lines of the form of a record.
var rightLines = []string{
	"t1 0000 a2 sync\n", "t2 0000 00 dbin\n", "tw 0000 00 dbin wait inte\n", "t3 0000 3e dbin\n", "thalt 89ab 00 wait\n",
	"treset abcd ef sync dbin wait inte ale iom s1 s0 rd inta sod wr hlda float\n", "th 0000 00 hlda float\n",
}

// P28.2: lines that are not of the form, the first one, the last one, and between others.
func TestWrongLines(t *testing.T) {
	for _, line := range wrong {
		checkWrong(t, line+"\n", 1)
		if line != "" {
			checkWrong(t, line, 1)
		}
		for n := range len(rightLines) + 1 {
			before, after := strings.Join(rightLines[:n], ""), strings.Join(rightLines[n:], "")
			checkWrong(t, before+line+"\n"+after, n+1)
			checkWrong(t, before+line+"\n", n+1)
			if line != "" {
				checkWrong(t, before+line, n+1)
			}
		}
	}
}

// P28.2: a line without the byte 10 at its end, and other bytes in its place.
func TestLineEnds(t *testing.T) {
	for n, line := range rightLines {
		before := strings.Join(rightLines[:n], "")
		bare := strings.TrimSuffix(line, "\n")
		checkWrong(t, bare, 1)
		checkWrong(t, before+bare, n+1)
		for _, end := range []string{"\r", "\r\n", "\n\r", "\x00", "\v", "\f", "\u0085", "\u2028", "\\n", " \n", "\n ", "\n\n"} {
			checkAny(t, before+bare+end)
			checkAny(t, before+bare+end+line)
		}
		checkWrong(t, before+bare+"\r\n", n+1)
		checkWrong(t, before+line+"\n", n+2)
		checkWrong(t, "\n"+before+line, 1)
		checkWrong(t, before+bare+line, n+1)
	}
}

// P28.2: of several lines that are not of the form, the first one counts.
func TestFirstWrongLine(t *testing.T) {
	checkWrong(t, "\n\n\n", 1)
	checkWrong(t, "t1 0000 00\n\n\n", 2)
	checkWrong(t, "t1 0000 00\nt1 0000 0g\nt1 000g 00\nt1 0000 00", 2)
	checkWrong(t, "t1 0000 00\nt1 0000 00\nt1 0000 00 foo\n? 0000 00\n", 3)
	checkWrong(t, "? 0000 00\nt1 0000 00", 1)
	checkWrong(t, "t1 0000 00\nt1 0000 00", 2)
	long := strings.Repeat("t1 0000 00\n", 100000)
	checkWrong(t, long+"t1", 100001)
	checkWrong(t, long+"\n"+long, 100001)
	checkWrong(t, long+"t1 0000 00 sync sync\n"+long+"t1", 100001)
	checkParse(t, long, slices.Repeat([]api.Pins{{State: api.T1}}, 100000))
	checkWrong(t, strings.Repeat(" ", 1<<20)+"\n", 1)
	checkWrong(t, "t1 0000 00"+strings.Repeat(" sync", 1<<18)+"\n", 1)
}

// P28.2: pins in any order. Two names are in their order, once each, or the line is not of the form.
func TestOrderOfPins(t *testing.T) {
	right := 0
	for i, x := range levels {
		for j, y := range levels {
			line := "t4 0a1b 2c " + x.name + " " + y.name + "\n"
			if i < j {
				checkParse(t, line, []api.Pins{pins(api.T4, 0x0A1B, 0x2C, 1<<i|1<<j)})
				right++
			} else {
				checkWrong(t, line, 1)
			}
			checkWrong(t, "t4 0a1b 2c "+x.name+y.name+"\n", 1)
			checkWrong(t, "t4 0a1b 2c "+x.name+"  "+y.name+"\n", 1)
			for _, z := range levels {
				checkAny(t, "t4 0a1b 2c "+x.name+" "+y.name+" "+z.name+"\n")
			}
		}
	}
	if right != 91 {
		t.Errorf("%d pairs of pins are in their order", right)
	}
}

// P28.2: all changes of one byte, all texts with a byte more and all with a byte less.
func TestChangesOfBytes(t *testing.T) {
	right := 0
	check := func(s string) {
		if checkAny(t, s) {
			right++
		}
	}
	for _, s := range []string{rightLines[0] + rightLines[3], rightLines[4], rightLines[5], "t1 0000 00 s1 s0\nth 0000 00\n"} {
		for i := range len(s) + 1 {
			check(s[:i])
			check(s[i:])
			for v := range 256 {
				check(s[:i] + string([]byte{byte(v)}) + s[i:])
				if i < len(s) {
					check(s[:i] + string([]byte{byte(v)}) + s[i+1:])
				}
			}
			if i < len(s) {
				check(s[:i] + s[i+1:])
			}
		}
	}
	if right < 500 {
		t.Errorf("only %d changed texts have a trace", right)
	}
}

// P28.2 and R1: any texts of parts of lines, and any bytes.
func TestAnyTexts(t *testing.T) {
	m := newMaker()
	parts := []string{
		"t1", "t6", "tw", "thalt", "treset", "?", " ", " ", " ", " 0000", " a2", " ffff 09", "t1 0000 00", "\n", "\n", "\n",
		" sync", " dbin", " wait", " s1", " s0", " inta", " hlda", " float", "x", "\xff", "\r\n",
	}
	right := 0
	for range 100000 {
		var s string
		if m.IntN(2) == 0 {
			s = "t1 0000 00"
		}
		for range m.IntN(8) {
			s += parts[m.IntN(len(parts))]
		}
		if m.IntN(2) == 0 {
			s += "\n"
		}
		if checkAny(t, s) && s != "" {
			right++
		}
	}
	if right < 1000 {
		t.Errorf("only %d texts have a trace", right)
	}
	for range 20000 {
		b := make([]byte, m.IntN(20))
		for i := range b {
			b[i] = byte(m.IntN(256))
		}
		checkAny(t, string(b))
	}
}

// R2: each trace is new, with its spare capacity.
func TestParseSharesNothing(t *testing.T) {
	m := newMaker()
	for range 200 {
		want, s := m.trace(1 + m.IntN(8))
		first, _, _ := dump.Parse(s)
		second, _, _ := dump.Parse(s)
		clear(first[:cap(first)])
		if !slices.Equal(second, want) {
			t.Fatalf("two traces of %q share memory", s)
		}
	}
}

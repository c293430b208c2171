package micro

import (
	"tstate/alu"
	"tstate/api"
	"tstate/count"
	"tstate/decimal"
	"tstate/regs"
	"tstate/rotate"
	"tstate/serial"
	"tstate/wide"
)

// moved returns the registers r after an instruction that moves bytes or words. All others leave them as they are.
func (i instruction) moved(r api.Regs) api.Regs {
	switch i.Kind {
	case api.Mov:
		return regs.Set(r, i.Dst, i.cellOrRegister(i.Src)())
	case api.Mvi:
		return regs.Set(r, i.Dst, i.immediate())
	case api.Lxi:
		return regs.SetPair(r, i.Pair, i.immediateWord())
	case api.Lda, api.Ldax, api.In:
		return regs.Set(r, api.RegA, i.loaded())
	case api.Lhld, api.Lhlx, api.Xthl:
		return regs.SetPair(r, api.PairH, i.loadedWord())
	case api.Xchg:
		r.D, r.E, r.H, r.L = r.H, r.L, r.D, r.E
	case api.Sphl:
		r.SP = regs.Pair(r, api.PairH)
	case api.Push:
		r.SP -= 2
	case api.Pop:
		return i.popped(r)
	}
	return r
}

// popped returns the registers r after Pop. The number of SP is that of the PSW here, so SP itself is not a target.
func (i instruction) popped(r api.Regs) api.Regs {
	r.SP += 2
	if i.Pair == api.PairSP {
		return regs.SetPSW(i.cpu.Chip, r, i.loadedWord())
	}
	return regs.SetPair(r, i.Pair, i.loadedWord())
}

// calculated returns the registers r after an instruction that calculates with bytes or words. All others leave them as
// they are.
func (i instruction) calculated(r api.Regs) api.Regs {
	chip := i.cpu.Chip
	switch i.Kind {
	case api.Alu:
		r.A, r.F = alu.Do(chip, i.Op, r.A, i.cellOrRegister(i.Src)(), r.F)
	case api.Ali:
		r.A, r.F = alu.Do(chip, i.Op, r.A, i.immediate(), r.F)
	case api.Inr, api.Dcr:
		b, f := i.counted()
		r = regs.Set(r, i.Dst, b)
		r.F = f
	case api.Daa:
		r.A, r.F = decimal.Daa(chip, r.A, r.F)
	case api.Cma:
		r.A = 255 - r.A
	case api.Stc:
		r.F.CY = true
	case api.Cmc:
		r.F.CY = !r.F.CY
	case api.Rot:
		r.A, r.F.CY = rotate.Byte(i.Op, r.A, r.F.CY)
	default:
		return i.calculatedWord(r)
	}
	return r
}

// counted returns the byte that Inr or Dcr results in, and the new flags.
func (i instruction) counted() (byte, api.Flags) {
	before := i.cellOrRegister(i.Dst)()
	if i.Kind == api.Inr {
		return count.Inr(i.cpu.Chip, before, i.cpu.Regs.F)
	}
	return count.Dcr(i.cpu.Chip, before, i.cpu.Regs.F)
}

// countedByte is the byte that Inr or Dcr writes.
func (i instruction) countedByte() byte {
	b, _ := i.counted()
	return b
}

// calculatedWord returns the registers r after an instruction that calculates with words.
func (i instruction) calculatedWord(r api.Regs) api.Regs {
	chip, f := i.cpu.Chip, r.F
	hl := regs.Pair(r, api.PairH)
	operand := regs.Pair(r, i.Pair)
	switch i.Kind {
	case api.Inx:
		operand, f = count.Inx(chip, operand, f)
		r = regs.SetPair(r, i.Pair, operand)
	case api.Dcx:
		operand, f = count.Dcx(chip, operand, f)
		r = regs.SetPair(r, i.Pair, operand)
	case api.Dad:
		hl, f = wide.Dad(chip, hl, operand, f)
		r = regs.SetPair(r, api.PairH, hl)
	case api.Dsub:
		hl, f = wide.Dsub(hl, regs.Pair(r, api.PairB))
		r = regs.SetPair(r, api.PairH, hl)
	case api.Arhl:
		hl, f.CY = rotate.Arhl(hl)
		r = regs.SetPair(r, api.PairH, hl)
	case api.Rdel:
		var de uint16
		de, f.CY, f.V = rotate.Rdel(regs.Pair(r, api.PairD), f.CY)
		r = regs.SetPair(r, api.PairD, de)
	case api.Ldhi:
		r = regs.SetPair(r, api.PairD, hl+uint16(i.immediate()))
	case api.Ldsi:
		r = regs.SetPair(r, api.PairD, r.SP+uint16(i.immediate()))
	}
	r.F = f
	return r
}

// jumped returns the registers r, in which PC is behind the instruction, after one that may go on elsewhere. All others
// leave them as they are.
func (i instruction) jumped(r api.Regs) api.Regs {
	switch i.Kind {
	case api.Pchl:
		r.PC = regs.Pair(r, api.PairH)
	case api.Rst:
		r.PC = uint16(8 * i.N)
		r.SP -= 2
	case api.Jmp, api.Call, api.Ret, api.Rstv:
		if i.taken() {
			return i.jumpedIfTaken(r)
		}
	}
	return r
}

// jumpedIfTaken returns the registers r after an instruction whose condition holds.
func (i instruction) jumpedIfTaken(r api.Regs) api.Regs {
	switch i.Kind {
	case api.Jmp:
		r.PC = i.immediateWord()
	case api.Call:
		r.PC = i.immediateWord()
		r.SP -= 2
	case api.Ret:
		r.PC = i.loadedWord()
		r.SP += 2
	case api.Rstv:
		r.PC = overflowVector
		r.SP -= 2
	}
	return r
}

// overflowVector is the address to which Rstv goes.
const overflowVector = 0x40

// controlled returns the state c after an instruction on the interrupts and the serial lines. All others leave it as it
// is.
func (i instruction) controlled(c api.CPU, l api.Lines) api.CPU {
	switch i.Kind {
	case api.Ei:
		c.IE = true
	case api.Di:
		c.IE = false
	case api.Rim:
		var a byte
		a, c = serial.Rim(c, l)
		c.Regs.A = a
	case api.Sim:
		return serial.Sim(c, c.Regs.A)
	}
	return c
}

package micro

import (
	"tstate/api"
	"tstate/bits"
	"tstate/regs"
)

// value and address are operands. They are closures, because the bytes that they depend on need not be read yet when
// the steps of an instruction are laid out.
type (
	value   func() byte
	address func() uint16
)

// register is the operand in a register, before the instruction.
func (i instruction) register(n int) value {
	return func() byte { return regs.Get(i.cpu.Regs, n) }
}

// cellOrRegister is the operand that the number of a register names: what was read from the cell M, or the register.
func (i instruction) cellOrRegister(n int) value {
	if n == api.RegM {
		return i.loaded
	}
	return i.register(n)
}

// immediate is the operand o1.
func (i instruction) immediate() byte { return i.at(1) }

// immediateWord is the operand W.
func (i instruction) immediateWord() uint16 { return i.wordAt(1) }

// loaded is the byte that the cycle after those of the instruction's own bytes has read.
func (i instruction) loaded() byte { return i.at(i.Length) }

// loadedWord is the word that the two cycles after those of the instruction's own bytes have read.
func (i instruction) loadedWord() uint16 { return i.wordAt(i.Length) }

// constant is a byte that is known.
func constant(b byte) value {
	return func() byte { return b }
}

// here is the address of the instruction.
func (i instruction) here() uint16 { return i.cpu.Regs.PC }

// port is the address of a port: its number in both halves.
func (i instruction) port() uint16 { return bits.Join(i.immediate(), i.immediate()) }

// pair is the address in a register pair, before the instruction.
func (i instruction) pair(n int) address {
	return func() uint16 { return regs.Pair(i.cpu.Regs, n) }
}

// beside is an address at a distance from another one.
func beside(at address, distance int) address {
	return func() uint16 { return at() + uint16(distance) }
}

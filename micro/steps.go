package micro

import (
	"tstate/api"
	"tstate/regs"
)

// The numbers of states of machine cycles.
const (
	fetchStates   = 4
	restartStates = 6
	usualStates   = 3
	longStates    = 5 // the last cycle of Xthl on the 8080
)

// step is a machine cycle that is computed when its turn comes, when all bytes that it depends on have been read.
type step func() api.Cycle

// first8080 returns the number of states of the first cycle on the 8080.
func first8080(i api.Instr) int {
	if longFirst(i) || inRegisters(i) {
		return 5
	}
	return fetchStates
}

// first8085 returns the number of states of the first cycle on the 8085.
func first8085(i api.Instr) int {
	switch {
	case longFirst(i), i.Kind == api.Rstv:
		return 6
	case i.Kind == api.Hlt:
		return 5
	}
	return fetchStates
}

// longFirst reports whether the first cycle is longer than the usual one on both chips.
func longFirst(i api.Instr) bool {
	switch i.Kind {
	case api.Inx, api.Dcx, api.Pchl, api.Sphl, api.Call, api.Rst, api.Push:
		return true
	case api.Ret:
		return i.Cond != api.CondAlways
	}
	return false
}

// inRegisters reports whether an instruction moves or counts a byte without the cell M.
func inRegisters(i api.Instr) bool {
	switch i.Kind {
	case api.Mov, api.Inr, api.Dcr:
		return i.Dst != api.RegM && i.Src != api.RegM
	}
	return false
}

// firstCycle returns the first cycle, as it is known before the opcode has been read.
func firstCycle(source int, pc uint16) api.Cycle {
	switch {
	case internal(source):
		return api.Cycle{Kind: api.CycRst, At: pc, States: restartStates}
	case source == api.FromIntr:
		return api.Cycle{Kind: api.CycAck, At: pc, States: fetchStates}
	}
	return api.Cycle{Kind: api.CycFetch, At: pc, States: fetchStates}
}

// stepsAfterFirst returns the steps that follow the first cycle, which has read the first byte of got.
func stepsAfterFirst(c api.CPU, source int, got []byte) []step {
	i := decoded(c, source, got)
	if internal(source) {
		return i.pushes(c.Regs.PC)
	}
	return append(i.operandSteps(), i.furtherSteps()...)
}

// operandSteps returns the steps that read the bytes of the instruction behind its opcode.
func (i instruction) operandSteps() []step {
	var steps []step
	for n := range i.operandBytes() {
		if i.injected {
			steps = append(steps, plain(api.CycMore, i.here))
		} else {
			steps = append(steps, plain(api.CycRead, beside(i.here, n+1)))
		}
	}
	return steps
}

// operandBytes returns the number of operands that are read. The 8085 leaves out the second one of a jump that is not
// taken.
func (i instruction) operandBytes() int {
	jumps := i.Kind == api.Jmp || i.Kind == api.Call
	if jumps && i.on8085() && !i.taken() {
		return 1
	}
	return i.Length - 1
}

// furtherSteps returns the steps behind those that read the bytes of the instruction.
func (i instruction) furtherSteps() []step {
	switch i.Kind {
	case api.Mov, api.Mvi, api.Alu, api.Inr, api.Dcr:
		return i.cellSteps()
	case api.Lda, api.Ldax, api.Lhld, api.Lhlx:
		return i.loadSteps()
	case api.Sta, api.Stax, api.Shld, api.Shlx:
		return i.storeSteps()
	case api.Call, api.Ret, api.Rst, api.Rstv, api.Push, api.Pop, api.Xthl:
		return i.stackSteps()
	case api.In:
		return []step{plain(api.CycIn, i.port)}
	case api.Out:
		return []step{writing(api.CycOut, i.port, i.register(api.RegA))}
	case api.Hlt:
		if !i.on8085() {
			return []step{plain(api.CycHalt, i.here)}
		}
	case api.Arhl, api.Ldhi, api.Ldsi:
		return []step{plain(api.CycIdle, i.here)}
	case api.Dad, api.Dsub, api.Rdel:
		return []step{plain(api.CycIdle, i.here), plain(api.CycIdle, i.here)}
	}
	return nil
}

// cellSteps returns the steps of an instruction that may name the cell M in the place of a register.
func (i instruction) cellSteps() []step {
	m := i.pair(api.PairH)
	to := i.Dst == api.RegM
	switch {
	case i.Src == api.RegM:
		return []step{plain(api.CycRead, m)}
	case to && i.Kind == api.Mov:
		return []step{writing(api.CycWrite, m, i.register(i.Src))}
	case to && i.Kind == api.Mvi:
		return []step{writing(api.CycWrite, m, i.immediate)}
	case to:
		return []step{plain(api.CycRead, m), writing(api.CycWrite, m, i.countedByte)}
	}
	return nil
}

// loadSteps returns the steps that read a byte into A, or the two bytes of HL.
func (i instruction) loadSteps() []step {
	at := i.dataAddress()
	first := plain(api.CycRead, at)
	if i.Kind == api.Lhld || i.Kind == api.Lhlx {
		return []step{first, plain(api.CycRead, beside(at, 1))}
	}
	return []step{first}
}

// storeSteps returns the steps that write A, or the two bytes of HL.
func (i instruction) storeSteps() []step {
	at := i.dataAddress()
	if i.Kind == api.Shld || i.Kind == api.Shlx {
		return []step{
			writing(api.CycWrite, at, i.register(api.RegL)),
			writing(api.CycWrite, beside(at, 1), i.register(api.RegH)),
		}
	}
	return []step{writing(api.CycWrite, at, i.register(api.RegA))}
}

// dataAddress returns the address of the data of a load or a store.
func (i instruction) dataAddress() address {
	switch i.Kind {
	case api.Ldax, api.Stax:
		return i.pair(i.Pair)
	case api.Lhlx, api.Shlx:
		return i.pair(api.PairD)
	}
	return i.immediateWord
}

// stackSteps returns the steps of an instruction on the stack.
func (i instruction) stackSteps() []step {
	switch i.Kind {
	case api.Rst:
		return i.pushes(i.behind())
	case api.Call, api.Rstv:
		if i.taken() {
			return i.pushes(i.behind())
		}
	case api.Ret:
		if i.taken() {
			return i.pops()
		}
	case api.Push:
		return i.pushes(i.pushedWord())
	case api.Pop:
		return i.pops()
	case api.Xthl:
		return append(i.pops(), i.exchanges()...)
	}
	return nil
}

// pops returns the steps that read the word at SP.
func (i instruction) pops() []step {
	sp := i.pair(api.PairSP)
	return []step{plain(api.CycPop, sp), plain(api.CycPop, beside(sp, 1))}
}

// pushes returns the steps that write a word below SP.
func (i instruction) pushes(word uint16) []step {
	sp := i.pair(api.PairSP)
	return []step{
		writing(api.CycPush, beside(sp, -1), constant(byte(word>>8))),
		writing(api.CycPush, beside(sp, -2), constant(byte(word))),
	}
}

// pushedWord returns the word that Push writes.
func (i instruction) pushedWord() uint16 {
	if i.Pair == api.PairSP {
		return regs.PSW(i.cpu.Chip, i.cpu.Regs)
	}
	return regs.Pair(i.cpu.Regs, i.Pair)
}

// exchanges returns the steps with which Xthl writes HL over the word at SP. They go downwards, as those of a push do.
func (i instruction) exchanges() []step {
	sp := i.pair(api.PairSP)
	last := writing(api.CycPush, sp, i.register(api.RegL))
	if !i.on8085() {
		last = lasting(longStates, last)
	}
	return []step{writing(api.CycPush, beside(sp, 1), i.register(api.RegH)), last}
}

// plain is the step of a cycle that writes no byte, whether it reads one or not.
func plain(kind int, at address) step {
	return func() api.Cycle { return api.Cycle{Kind: kind, At: at(), States: usualStates} }
}

// writing is the step of a cycle that writes a byte.
func writing(kind int, at address, data value) step {
	return func() api.Cycle { return api.Cycle{Kind: kind, At: at(), Data: data(), States: usualStates} }
}

// lasting is a step with another number of states.
func lasting(states int, s step) step {
	return func() api.Cycle {
		cycle := s()
		cycle.States = states
		return cycle
	}
}

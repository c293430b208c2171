package cycles

import "tstate/api"

// states are the numbers of states of an instruction whose condition holds, and of one whose condition does not. They are
// equal if there is none.
type states struct{ taken, otherwise int }

// of8080 returns the numbers of states of an instruction on the 8080.
func of8080(i api.Instr) states {
	switch i.Kind {
	case api.Mov, api.Inr, api.Dcr:
		if !withMemory(i) {
			return always(5)
		}
	case api.Inx, api.Dcx, api.Pchl, api.Sphl:
		return always(5)
	case api.Call:
		return conditional(i, 17, 11)
	case api.Ret:
		if i.Cond != api.CondAlways {
			return states{11, 5}
		}
	case api.Rst, api.Push:
		return always(11)
	case api.Xthl:
		return always(18)
	case api.Hlt:
		return always(7)
	}
	return always(ofBoth(i))
}

// of8085 returns the numbers of states of an instruction on the 8085.
func of8085(i api.Instr) states {
	switch i.Kind {
	case api.Mov, api.Inr, api.Dcr:
		if !withMemory(i) {
			return always(4)
		}
	case api.Inx, api.Dcx, api.Pchl, api.Sphl:
		return always(6)
	case api.Jmp:
		return conditional(i, 10, 7)
	case api.Call:
		return conditional(i, 18, 9)
	case api.Ret:
		if i.Cond != api.CondAlways {
			return states{12, 6}
		}
	case api.Rst, api.Push:
		return always(12)
	case api.Xthl:
		return always(16)
	case api.Hlt:
		return always(5)
	case api.Dsub, api.Rdel, api.Ldhi, api.Ldsi, api.Shlx, api.Lhlx:
		return always(10)
	case api.Arhl:
		return always(7)
	case api.Rstv:
		return states{12, 6}
	}
	return always(ofBoth(i))
}

// ofBoth returns the number of states of an instruction that takes as many on both chips, whatever its condition.
func ofBoth(i api.Instr) int {
	switch i.Kind {
	case api.Mov, api.Ldax, api.Stax, api.Ali:
		return 7
	case api.Mvi:
		if withMemory(i) {
			return 10
		}
		return 7
	case api.Alu:
		if withMemory(i) {
			return 7
		}
	case api.Lxi, api.Inr, api.Dcr, api.Dad, api.Pop, api.In, api.Out, api.Jmp, api.Ret:
		return 10
	case api.Lda, api.Sta:
		return 13
	case api.Lhld, api.Shld:
		return 16
	}
	return 4
}

// withMemory reports whether an instruction names the cell M in the place of a register.
func withMemory(i api.Instr) bool { return i.Dst == api.RegM || i.Src == api.RegM }

func always(n int) states { return states{n, n} }

// conditional returns the numbers of states of an instruction that may have the condition that always holds.
func conditional(i api.Instr, taken, otherwise int) states {
	if i.Cond == api.CondAlways {
		return always(taken)
	}
	return states{taken, otherwise}
}

package listing

import "tstate/api"

// A mnemonic is the name of the instructions of a kind, or of those among them with one operation or one condition.
type mnemonic struct {
	name         string
	kind, length int
	choice       int
}

// instr returns the instruction of the mnemonic, with 0 for all operands.
func (m mnemonic) instr() api.Instr {
	i := api.Instr{Kind: m.kind, Length: m.length}
	switch m.kind {
	case api.Rot, api.Alu, api.Ali:
		i.Op = m.choice
	case api.Jmp, api.Call, api.Ret, api.Rstv:
		i.Cond = m.choice
	}
	return i
}

// nameOf returns the mnemonic of an instruction.
func nameOf(i api.Instr) string {
	for _, o := range operands(i.Kind) {
		*o.field(&i) = 0
	}
	for _, m := range mnemonics() {
		if m.instr() == i {
			return m.name
		}
	}
	return ""
}

// instructionOf returns the instruction of a mnemonic, with 0 for all operands, or reports false if there is none.
func instructionOf(name string) (api.Instr, bool) {
	for _, m := range mnemonics() {
		if m.name == name {
			return m.instr(), true
		}
	}
	return api.Instr{}, false
}

// mnemonics returns the mnemonics of both chips.
func mnemonics() []mnemonic {
	return []mnemonic{
		{"nop", api.Nop, 1, 0}, {"xchg", api.Xchg, 1, 0}, {"daa", api.Daa, 1, 0}, {"cma", api.Cma, 1, 0},
		{"stc", api.Stc, 1, 0}, {"cmc", api.Cmc, 1, 0}, {"pchl", api.Pchl, 1, 0}, {"sphl", api.Sphl, 1, 0},
		{"xthl", api.Xthl, 1, 0}, {"ei", api.Ei, 1, 0}, {"di", api.Di, 1, 0}, {"hlt", api.Hlt, 1, 0},
		{"rim", api.Rim, 1, 0}, {"sim", api.Sim, 1, 0}, {"dsub", api.Dsub, 1, 0}, {"arhl", api.Arhl, 1, 0},
		{"rdel", api.Rdel, 1, 0}, {"shlx", api.Shlx, 1, 0}, {"lhlx", api.Lhlx, 1, 0}, {"rst", api.Rst, 1, 0},
		{"mov", api.Mov, 1, 0}, {"mvi", api.Mvi, 2, 0}, {"inr", api.Inr, 1, 0}, {"dcr", api.Dcr, 1, 0},
		{"lxi", api.Lxi, 3, 0}, {"ldax", api.Ldax, 1, 0}, {"stax", api.Stax, 1, 0}, {"inx", api.Inx, 1, 0},
		{"dcx", api.Dcx, 1, 0}, {"dad", api.Dad, 1, 0}, {"push", api.Push, 1, 0}, {"pop", api.Pop, 1, 0},
		{"lda", api.Lda, 3, 0}, {"sta", api.Sta, 3, 0}, {"lhld", api.Lhld, 3, 0}, {"shld", api.Shld, 3, 0},
		{"in", api.In, 2, 0}, {"out", api.Out, 2, 0}, {"ldhi", api.Ldhi, 2, 0}, {"ldsi", api.Ldsi, 2, 0},

		{"rlc", api.Rot, 1, 0}, {"rrc", api.Rot, 1, 1}, {"ral", api.Rot, 1, 2}, {"rar", api.Rot, 1, 3},
		{"add", api.Alu, 1, api.Add}, {"adc", api.Alu, 1, api.Adc}, {"sub", api.Alu, 1, api.Sub}, {"sbb", api.Alu, 1, api.Sbb},
		{"ana", api.Alu, 1, api.Ana}, {"xra", api.Alu, 1, api.Xra}, {"ora", api.Alu, 1, api.Ora}, {"cmp", api.Alu, 1, api.Cmp},
		{"adi", api.Ali, 2, api.Add}, {"aci", api.Ali, 2, api.Adc}, {"sui", api.Ali, 2, api.Sub}, {"sbi", api.Ali, 2, api.Sbb},
		{"ani", api.Ali, 2, api.Ana}, {"xri", api.Ali, 2, api.Xra}, {"ori", api.Ali, 2, api.Ora}, {"cpi", api.Ali, 2, api.Cmp},

		{"jnz", api.Jmp, 3, api.CondNZ}, {"cnz", api.Call, 3, api.CondNZ}, {"rnz", api.Ret, 1, api.CondNZ},
		{"jz", api.Jmp, 3, api.CondZ}, {"cz", api.Call, 3, api.CondZ}, {"rz", api.Ret, 1, api.CondZ},
		{"jnc", api.Jmp, 3, api.CondNC}, {"cnc", api.Call, 3, api.CondNC}, {"rnc", api.Ret, 1, api.CondNC},
		{"jc", api.Jmp, 3, api.CondC}, {"cc", api.Call, 3, api.CondC}, {"rc", api.Ret, 1, api.CondC},
		{"jpo", api.Jmp, 3, api.CondPO}, {"cpo", api.Call, 3, api.CondPO}, {"rpo", api.Ret, 1, api.CondPO},
		{"jpe", api.Jmp, 3, api.CondPE}, {"cpe", api.Call, 3, api.CondPE}, {"rpe", api.Ret, 1, api.CondPE},
		{"jp", api.Jmp, 3, api.CondP}, {"cp", api.Call, 3, api.CondP}, {"rp", api.Ret, 1, api.CondP},
		{"jm", api.Jmp, 3, api.CondM}, {"cm", api.Call, 3, api.CondM}, {"rm", api.Ret, 1, api.CondM},
		{"jmp", api.Jmp, 3, api.CondAlways}, {"call", api.Call, 3, api.CondAlways}, {"ret", api.Ret, 1, api.CondAlways},
		{"jnk", api.Jmp, 3, api.CondNK}, {"jk", api.Jmp, 3, api.CondK}, {"rstv", api.Rstv, 1, api.CondV},
	}
}

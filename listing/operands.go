package listing

import "tstate/api"

// An operand is a part of a text that stands for a field of the instruction.
type operand int

const (
	dst operand = iota
	src
	pair
	stackPair // of Push and Pop
	number    // of Rst
)

// operands returns those of the instructions of a kind. A byte or a word that follows the opcode is not one of them.
func operands(kind int) []operand {
	switch kind {
	case api.Mov:
		return []operand{dst, src}
	case api.Mvi, api.Inr, api.Dcr:
		return []operand{dst}
	case api.Alu:
		return []operand{src}
	case api.Lxi, api.Ldax, api.Stax, api.Inx, api.Dcx, api.Dad:
		return []operand{pair}
	case api.Push, api.Pop:
		return []operand{stackPair}
	case api.Rst:
		return []operand{number}
	}
	return nil
}

// field returns the field of i for which the operand stands.
func (o operand) field(i *api.Instr) *int {
	switch o {
	case dst:
		return &i.Dst
	case src:
		return &i.Src
	case number:
		return &i.N
	}
	return &i.Pair
}

// names returns the texts of the operand for the values 0, 1 and so on of its field.
func (o operand) names() []string {
	switch o {
	case pair:
		return []string{"b", "d", "h", "sp"}
	case stackPair:
		return []string{"b", "d", "h", "psw"}
	case number:
		return []string{"0", "1", "2", "3", "4", "5", "6", "7"}
	}
	return []string{"b", "c", "d", "e", "h", "l", "m", "a"}
}

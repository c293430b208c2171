package dump

import "tstate/api"

// unknown is the name of all numbers that are no states.
const unknown = "?"

// stateNames are the names of the states from T1 to TReset.
var stateNames = [...]string{"t1", "t2", "t3", "t4", "t5", "t6", "tw", "th", "thalt", "treset"}

// nameOf returns the name of a state.
func nameOf(state int) string {
	if state < api.T1 || state > api.TReset {
		return unknown
	}
	return stateNames[state-api.T1]
}

// stateOf returns the state with a name, or reports false if there is none.
func stateOf(name string) (int, bool) {
	for i, known := range stateNames {
		if known == name {
			return api.T1 + i, true
		}
	}
	return 0, false
}

// A pin is a level of a record, with its name.
type pin struct {
	name  string
	level *bool
}

// pinsOf returns the pins of a record, in the order of their names in a line.
func pinsOf(p *api.Pins) [14]pin {
	return [...]pin{
		{"sync", &p.Sync}, {"dbin", &p.Dbin}, {"wait", &p.Wait}, {"inte", &p.Inte},
		{"ale", &p.Ale}, {"iom", &p.IOM}, {"s1", &p.S1}, {"s0", &p.S0}, {"rd", &p.Rd},
		{"inta", &p.Inta}, {"sod", &p.Sod},
		{"wr", &p.Wr}, {"hlda", &p.Hlda}, {"float", &p.Float},
	}
}

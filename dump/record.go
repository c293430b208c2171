package dump

import (
	"strings"

	"tstate/api"
)

// blank is before each part of a line but the name of the state.
const blank = " "

// appendRecord appends the line of a record, without its end.
func appendRecord(text []byte, p api.Pins) []byte {
	text = append(text, nameOf(p.State)...)
	text = appendNumber(text, int(p.Addr), addrDigits)
	text = appendNumber(text, int(p.Data), dataDigits)
	for _, x := range pinsOf(&p) {
		if *x.level {
			text = append(text, blank...)
			text = append(text, x.name...)
		}
	}
	return text
}

// parseRecord returns the record with a line, which is given without its end, or reports false if there is none.
func parseRecord(line string) (api.Pins, bool) {
	name, _, _ := strings.Cut(line, blank)
	state, hasState := stateOf(name)
	addr, rest, hasAddr := cutNumber(line[len(name):], addrDigits)
	data, rest, hasData := cutNumber(rest, dataDigits)
	p := api.Pins{State: state, Addr: uint16(addr), Data: byte(data)}
	// No name is the beginning of another one, so that what is cut off is a whole name, or something remains.
	for _, x := range pinsOf(&p) {
		rest, *x.level = strings.CutPrefix(rest, blank+x.name)
	}
	if !hasState || !hasAddr || !hasData || rest != "" {
		return api.Pins{}, false
	}
	return p, true
}

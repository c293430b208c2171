package pic

import (
	"tstate/api"
	"tstate/priority"
)

// The bits that tell ICW1 and OCW3 from OCW2.
const (
	isICW1 = 0x10
	isOCW3 = 0x08
)

// The bits of ICW1.
const (
	icw1Low    = 0xE0
	icw1Level  = 0x08
	icw1Four   = 0x04
	icw1Single = 0x02
	icw1Fourth = 0x01
)

// icw4Auto is the bit of ICW4 for the automatic end of interrupt.
const icw4Auto = 0x02

// The commands in the bits 7 to 5 of OCW2. Command 2 does nothing.
const (
	rotateOff        = 0
	endHighest       = 1
	endLine          = 3
	rotateOn         = 4
	endHighestRotate = 5
	setLowest        = 6
	endLineRotate    = 7
)

// The bits of OCW3: two modes, each with a bit that tells whether it is set, and the poll command.
const (
	ocw3SetSpecial = 0x40
	ocw3Special    = 0x20
	ocw3Poll       = 0x04
	ocw3SetReadISR = 0x02
	ocw3ReadISR    = 0x01
)

// Write returns the state after a byte is written, with high to the upper one of the two ports.
func Write(p api.PIC, high bool, v byte) api.PIC {
	switch {
	case high:
		return writeHigh(p, v)
	case v&isICW1 != 0:
		return initialize(p, v)
	case v&isOCW3 != 0:
		return setModes(p, v)
	}
	return command(p, v)
}

// initialize returns the state after ICW1. The levels of the lines are not the controller's own, so that they stay.
func initialize(p api.PIC, v byte) api.PIC {
	after := New()
	after.Lines = p.Lines
	after.Level, after.Four = v&icw1Level != 0, v&icw1Four != 0
	after.Single, after.Fourth = v&icw1Single != 0, v&icw1Fourth != 0
	after.Low = v & icw1Low
	after.Stage = 2
	return after
}

// writeHigh returns the state after the initialization word that is expected, or after the mask if none is.
func writeHigh(p api.PIC, v byte) api.PIC {
	switch p.Stage {
	case 2:
		p.High = v
		p.Stage = afterSecond(p)
	case 3:
		p.Stage = afterThird(p)
	case 4:
		p.Auto = v&icw4Auto != 0
		p.Stage = 0
	default:
		p.IMR = v
	}
	return p
}

// afterSecond returns the stage after ICW2.
func afterSecond(p api.PIC) int {
	if !p.Single {
		return 3
	}
	return afterThird(p)
}

// afterThird returns the stage after ICW3, or without one.
func afterThird(p api.PIC) int {
	if p.Fourth {
		return 4
	}
	return 0
}

// command returns the state after OCW2.
func command(p api.PIC, v byte) api.PIC {
	line := int(v & lineBits)
	switch v >> 5 {
	case rotateOff:
		p.Rotate = false
	case rotateOn:
		p.Rotate = true
	case setLowest:
		p.Lowest = line
	case endHighest:
		return end(p, highestInService(p), false)
	case endHighestRotate:
		return end(p, highestInService(p), true)
	case endLine:
		return end(p, line, false)
	case endLineRotate:
		return end(p, line, true)
	}
	return p
}

// highestInService returns the line in service with the highest priority, or none. In the special mask mode, masked
// lines do not count.
func highestInService(p api.PIC) int {
	served := p.ISR
	if p.Special {
		served &^= p.IMR
	}
	return priority.Highest(served, p.Lowest)
}

// setModes returns the state after OCW3.
func setModes(p api.PIC, v byte) api.PIC {
	if v&ocw3SetSpecial != 0 {
		p.Special = v&ocw3Special != 0
	}
	if v&ocw3SetReadISR != 0 {
		p.ReadISR = v&ocw3ReadISR != 0
	}
	if v&ocw3Poll != 0 {
		p.Poll = true
	}
	return p
}

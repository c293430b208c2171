package pic

import "tstate/api"

// polled is the bit of the byte of a poll that tells that there is a line.
const polled = 0x80

// callOpcode is the first byte of a Call.
const callOpcode = 0xCD

// The bits of Low that belong to the call address, by its interval.
const (
	lowOfFour  = 0xE0
	lowOfEight = 0xC0
)

// Read returns the byte that is read, with high from the upper one of the two ports, and the state after it.
func Read(p api.PIC, high bool) (api.PIC, byte) {
	switch {
	case high:
		return p, p.IMR
	case p.Poll:
		return poll(p)
	case p.ReadISR:
		return p, p.ISR
	}
	return p, Requests(p)
}

// poll serves a line as three acknowledge pulses do, but at once.
func poll(p api.PIC) (api.PIC, byte) {
	p.Poll = false
	line := pick(p)
	if line == none {
		return p, 0
	}
	p = serve(p, line)
	if p.Auto {
		p = end(p, line, p.Rotate)
	}
	return p, polled | byte(line)
}

// Ack returns the byte that answers an acknowledge pulse, and the state after it. Three pulses make a Call.
func Ack(p api.PIC) (api.PIC, byte) {
	switch p.Step {
	case 0:
		return choose(p), callOpcode
	case 1:
		p.Step = 2
		return p, lowAddress(p)
	}
	return finish(p), p.High
}

// choose returns the state after the first pulse, which settles the line of all three.
func choose(p api.PIC) api.PIC {
	p.Step = 1
	line := pick(p)
	if line == none {
		p.Serving, p.Spurious = last, true
		return p
	}
	p.Serving, p.Spurious = line, false
	return serve(p, line)
}

// lowAddress returns the low byte of the call address.
func lowAddress(p api.PIC) byte {
	line := byte(p.Serving & lineBits)
	if p.Four {
		return p.Low&lowOfFour + 4*line
	}
	return p.Low&lowOfEight + 8*line
}

// finish returns the state after the last pulse.
func finish(p api.PIC) api.PIC {
	p.Step = 0
	if p.Auto && !p.Spurious {
		return end(p, p.Serving&lineBits, p.Rotate)
	}
	return p
}

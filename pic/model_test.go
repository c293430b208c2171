package pic_test

import (
	"math"
	"slices"
	"testing"

	"tstate/api"
)

// The model of this file describes a controller by lists of lines in the order of their priorities.

func has(set byte, line int) bool { return int(set)/(1<<line)%2 == 1 }

// with returns the set with a line, and without the set without it.
func with(set byte, line int) byte {
	if has(set, line) {
		return set
	}
	return set + 1<<line
}

func without(set byte, line int) byte {
	if has(set, line) {
		return set - 1<<line
	}
	return set
}

// line returns the line of a number: its lowest three bits count.
func line(number int) int { return (number%8 + 8) % 8 }

// order returns the lines from the highest priority to the lowest one.
func order(p api.PIC) (lines []int) {
	for i := range 8 {
		lines = append(lines, (line(p.Lowest)+1+i)%8)
	}
	return lines
}

// requested are the lines that request service.
func requested(p api.PIC) byte {
	return map[bool]byte{true: p.Lines, false: p.Edge}[p.Level]
}

// blocks reports whether a line is in service and counts as such.
func blocks(p api.PIC, line int) bool {
	return has(p.ISR, line) && !(p.Special && has(p.IMR, line))
}

// next returns the line that is to be served, if there is one: from the highest priority on, a line in service ends the search.
func next(p api.PIC) (int, bool) {
	for _, line := range order(p) {
		switch {
		case blocks(p, line):
			return 0, false
		case has(requested(p), line) && !has(p.IMR, line):
			return line, true
		}
	}
	return 0, false
}

// taken returns the state after a line is taken into service.
func taken(p api.PIC, line int) api.PIC {
	p.ISR, p.Edge = with(p.ISR, line), without(p.Edge, line)
	return p
}

// ended returns the state after the service of a line has ended by itself.
func ended(p api.PIC, line int) api.PIC {
	p.ISR = without(p.ISR, line)
	if p.Rotate {
		p.Lowest = line
	}
	return p
}

// raised is a model of Raise, line by line.
func raised(p api.PIC, lines byte) api.PIC {
	var edge byte
	for line := range 8 {
		rises := has(lines, line) && !has(p.Lines, line)
		if rises || has(p.Edge, line) && has(lines, line) {
			edge = with(edge, line)
		}
	}
	p.Edge, p.Lines = edge, lines
	return p
}

// written is a model of Write.
func written(p api.PIC, high bool, v byte) api.PIC {
	switch {
	case high:
		return afterWord(p, v)
	case has(v, 4):
		return api.PIC{
			Stage: 2, Lowest: 7, Lines: p.Lines, Low: v - v%32,
			Level: has(v, 3), Four: has(v, 2), Single: has(v, 1), Fourth: has(v, 0),
		}
	case has(v, 3):
		p.Special = has(v, 6) && has(v, 5) || !has(v, 6) && p.Special
		p.ReadISR = has(v, 1) && has(v, 0) || !has(v, 1) && p.ReadISR
		p.Poll = p.Poll || has(v, 2)
		return p
	}
	return afterCommand(p, v)
}

// afterWord is the state after a byte at the upper port.
func afterWord(p api.PIC, v byte) api.PIC {
	stages := []int{2, 0} // the initialization words that are still to come, and the end
	if p.Fourth {
		stages = slices.Insert(stages, 1, 4)
	}
	if !p.Single || p.Stage == 3 {
		stages = slices.Insert(stages, 1, 3)
	}
	switch p.Stage {
	case 2:
		p.High = v
	case 3:
	case 4:
		p.Auto, p.Stage = has(v, 1), 0
		return p
	default:
		p.IMR = v
		return p
	}
	p.Stage = stages[slices.Index(stages, p.Stage)+1]
	return p
}

// afterCommand is the state after OCW2: bit 5 ends a service, bit 6 names a line, bit 7 rotates.
func afterCommand(p api.PIC, v byte) api.PIC {
	ends, names, rotates := has(v, 5), has(v, 6), has(v, 7)
	named := int(v % 8)
	if !ends && !names {
		p.Rotate = rotates
		return p
	}
	if ends && !names {
		i := slices.IndexFunc(order(p), func(line int) bool { return blocks(p, line) })
		if i < 0 {
			return p
		}
		named = order(p)[i]
	}
	if ends {
		p.ISR = without(p.ISR, named)
	}
	if rotates {
		p.Lowest = named
	}
	return p
}

// read is a model of Read.
func read(p api.PIC, high bool) (api.PIC, byte) {
	if high {
		return p, p.IMR
	}
	if !p.Poll {
		return p, map[bool]byte{true: p.ISR, false: requested(p)}[p.ReadISR]
	}
	p.Poll = false
	line, ok := next(p)
	if !ok {
		return p, 0
	}
	p = taken(p, line)
	if p.Auto {
		p = ended(p, line)
	}
	return p, byte(128 + line)
}

// acked is a model of Ack.
func acked(p api.PIC) (api.PIC, byte) {
	switch p.Step {
	case 0:
		x, ok := next(p)
		if ok {
			p = taken(p, x)
		} else {
			x = 7
		}
		p.Step, p.Serving, p.Spurious = 1, x, !ok
		return p, 205
	case 1:
		p.Step = 2
		if p.Four {
			return p, p.Low/32*32 + byte(4*line(p.Serving))
		}
		return p, p.Low/64*64 + byte(8*line(p.Serving))
	}
	p.Step = 0
	if p.Auto && !p.Spurious {
		p = ended(p, line(p.Serving))
	}
	return p, p.High
}

// ints are numbers of lines, stages and steps: the ones that occur, others that agree with them in their low bits, and the
// ends of int.
var ints = []int{
	0, 1, 2, 3, 4, 5, 6, 7, 8, 9, 10, 11, 12, 13, 14, 15, 16, 255, 256, 257, 258, 259, 260, -1, -2, -3, -4, -5, -6, -7, -8, -9,
	1 << 32, 1<<32 + 1, 1<<32 + 2, 1<<32 + 3, 1<<32 + 4, math.MaxInt, math.MaxInt - 4, math.MinInt, math.MinInt + 1, math.MinInt + 2,
}

// The numbers of the states that most tests go through.
const someStates, manyStates = 2500, 200000

// bitsOf returns 64 bits that are scattered over all values when n counts up.
func bitsOf(n int) uint64 {
	z := uint64(n) * 0x9E3779B97F4A7C15
	z = (z ^ z>>30) * 0xBF58476D1CE4E5B9
	z = (z ^ z>>27) * 0x94D049BB133111EB
	return z ^ z>>31
}

// state returns the state of a number: all fields vary, with few or many lines in each set, and in half of the states the
// stage, the step and the lines are out of range.
func state(n int) api.PIC {
	b, c := bitsOf(2*n), bitsOf(2*n+1)
	is := func(i int) bool { return b>>i&1 == 1 }
	set := func(i int) byte { return byte(c>>i) & byte(c>>(i+8)|-(b>>(12+i/8)&1)) }
	p := api.PIC{
		Level: is(0), Four: is(1), Single: is(2), Fourth: is(3), Auto: is(4), Rotate: is(5), Special: is(6),
		ReadISR: is(7), Poll: is(8), Spurious: is(9), Low: byte(b >> 20), High: byte(b >> 28),
		Lines: set(0), Edge: set(8), ISR: set(16) & byte(c>>48), IMR: set(24) & byte(c>>56),
		Stage: []int{0, 2, 3, 4}[b>>36&3], Lowest: int(b >> 38 & 7), Step: int(b >> 41 % 3), Serving: int(b >> 43 & 7),
	}
	if is(10) {
		pick := func(i int) int { return ints[b>>i%uint64(len(ints))] }
		p.Stage, p.Lowest, p.Step, p.Serving = pick(36), pick(42), pick(48), pick(54)
	}
	return p
}

// check compares a state and a byte with those of the model.
func check(t *testing.T, what string, before, got, want api.PIC, b, wantByte byte) {
	t.Helper()
	if got != want || b != wantByte {
		t.Fatalf("%s of %+v:\n%+v, %#02x, want\n%+v, %#02x", what, before, got, b, want, wantByte)
	}
}

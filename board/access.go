package board

import (
	"tstate/api"
	"tstate/dma"
	"tstate/pic"
	"tstate/regions"
)

// The numbers of the ports of the devices.
const (
	picPorts = 2
	dmaPorts = 4
)

// device is what answers at a port.
type device int

const (
	outside    device = iota // the input port, or the outputs
	controller               // of interrupts
	master                   // of DMA
)

// deviceAt returns the device at a port, and the number of its register there. The interrupt controller comes first
// where the ports of both devices are the same.
func deviceAt(b api.Board, port byte) (device, byte) {
	if register := port - b.PicPort; register < picPorts && !b.Jam {
		return controller, register
	}
	if register := port - b.DmaPort; register < dmaPorts {
		return master, register
	}
	return outside, 0
}

// read returns the system after its machine cycle has read a byte, and the byte. input is the byte of the input port.
func read(b api.Board, s api.System, input byte) (api.System, byte) {
	cycle := s.Core.Cycle
	switch {
	case cycle.Kind == api.CycIn:
		return readPort(b, s, byte(cycle.At), input)
	case accessesMemory(cycle.Kind):
		return s, regions.Read(b.Regions, s.Memory, cycle.At)
	case b.Jam:
		return s, input
	}
	var v byte
	s.PIC, v = pic.Ack(s.PIC)
	return s, v
}

// readPort returns the system after a byte is read from a port, and the byte.
func readPort(b api.Board, s api.System, port, input byte) (api.System, byte) {
	where, register := deviceAt(b, port)
	switch where {
	case controller:
		s.PIC, input = pic.Read(s.PIC, register == 1)
	case master:
		input = dma.Read(s.DMA, int(register))
	}
	return s, input
}

// written returns the system after a machine cycle has written its byte.
func written(b api.Board, s api.System, cycle api.Cycle) api.System {
	if accessesMemory(cycle.Kind) {
		s.Memory = regions.Write(b.Regions, s.Memory, cycle.At, cycle.Data)
		return s
	}
	return writtenPort(b, s, byte(cycle.At), cycle.Data)
}

// writtenPort returns the system after a byte is written to a port. Every byte is an output, also one for a device.
func writtenPort(b api.Board, s api.System, port, v byte) api.System {
	s.Outs = append(s.Outs, api.Output{Port: port, Val: v})
	where, register := deviceAt(b, port)
	switch where {
	case controller:
		s.PIC = pic.Write(s.PIC, register == 1, v)
	case master:
		s.DMA = dma.Write(s.DMA, int(register), v)
	}
	return s
}

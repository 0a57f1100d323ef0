// Package machine runs programs: it fetches lines of memory ahead into a buffer, cuts instructions out of it, and does one of them a tick, or two.
package machine

import "hart/api"

// Machine is made of its parts; what they can do, it can.
type Machine struct {
	registers
	memory
	buffer
	history
	line  uint32 // bytes
	fuses bool
	cause int // of the halt; 0, if it has not halted
	done  int
}

// New makes a machine.
func New(c api.Config) (*Machine, api.Errno) {
	if !isLineSize(c.Line) || c.Pc%parcelSize != 0 {
		return nil, api.ErrConfig
	}
	return &Machine{
		registers: newRegisters(c.Pc, c.Regs),
		memory:    newMemory(),
		buffer:    buffer{ahead: c.Pc},
		line:      uint32(c.Line),
		fuses:     c.Fuse,
	}, api.OK
}

func isLineSize(n int) bool {
	switch n {
	case 4, 8, 16, 32, 64:
		return true
	}
	return false
}

// Poke puts bytes into memory. What was fetched may be other bytes now, so it is fetched again.
func (m *Machine) Poke(addr uint32, bytes string) {
	m.write(addr, bytes)
	m.restart(m.pc)
}

// Peek tells n bytes of memory.
func (m *Machine) Peek(addr uint32, n int) (string, api.Errno) {
	if n < 0 || n > api.MaxPeek {
		return "", api.ErrRange
	}
	out := make([]byte, n)
	m.read(addr, out)
	return string(out), api.OK
}

// Look tells how the machine stands.
func (m *Machine) Look() api.State {
	return api.State{
		Pc:     m.pc,
		Halted: m.halted(),
		Cause:  m.cause,
		Done:   m.done,
		Queue:  m.queued(),
		Regs:   m.values,
	}
}

func (m *Machine) halted() bool {
	return m.cause != 0
}

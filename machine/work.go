package machine

import "hart/api"

// work is a micro-operation: what one instruction does to the machine.
type work interface {
	do(m *Machine)
	about() common
}

// common is what all works have: the instruction, where it lies, and how many parcels it has.
type common struct {
	api.Inst
	pc      uint32
	parcels int
}

func (c common) about() common {
	return c
}

// next is the address behind it.
func (c common) next() uint32 {
	return c.pc + uint32(c.parcels)*parcelSize
}

// The kinds of work.
type (
	compute struct{ common }
	load    struct{ common }
	store   struct{ common }
	jump    struct{ common }
	branch  struct{ common }
	pause   struct{ common }
	halt    struct {
		common
		cause int
	}
)

// workOf tells a halt, if there is no such Op.
func workOf(c common) work {
	switch c.Op {
	case api.Jal, api.Jalr:
		return jump{c}
	case api.Beq, api.Bne, api.Blt, api.Bge, api.Bltu, api.Bgeu:
		return branch{c}
	case api.Lb, api.Lh, api.Lw, api.Lbu, api.Lhu:
		return load{c}
	case api.Sb, api.Sh, api.Sw:
		return store{c}
	case api.Fence:
		return pause{c}
	case api.Ecall:
		return halt{c, api.Call}
	case api.Ebreak:
		return halt{c, api.Break}
	case 0:
		return halt{c, api.Illegal}
	}
	return compute{c}
}

func (w compute) do(m *Machine) {
	m.setRegister(w.Rd, w.result(m))
	m.pc = w.next()
}

func (w load) do(m *Machine) {
	addr := m.register(w.Rs1) + uint32(w.Imm)
	m.setRegister(w.Rd, w.loaded(m, addr))
	m.pc = w.next()
}

func (w load) loaded(m *Machine, addr uint32) uint32 {
	switch w.Op {
	case api.Lb:
		return uint32(int8(m.number(addr, 1)))
	case api.Lh:
		return uint32(int16(m.number(addr, 2)))
	case api.Lbu:
		return m.number(addr, 1)
	case api.Lhu:
		return m.number(addr, 2)
	}
	return m.number(addr, 4)
}

func (w store) do(m *Machine) {
	m.putNumber(m.register(w.Rs1)+uint32(w.Imm), w.size(), m.register(w.Rs2))
	m.pc = w.next()
}

func (w store) size() int {
	switch w.Op {
	case api.Sb:
		return 1
	case api.Sh:
		return 2
	}
	return 4
}

func (w jump) do(m *Machine) {
	// Rd may be the register that the target hangs on.
	target := w.target(m)
	m.setRegister(w.Rd, w.next())
	m.pc = target
}

func (w jump) target(m *Machine) uint32 {
	if w.Op == api.Jal {
		return w.pc + uint32(w.Imm)
	}
	return (m.register(w.Rs1) + uint32(w.Imm)) &^ 1
}

func (w branch) do(m *Machine) {
	m.pc = w.next()
	if w.taken(m.register(w.Rs1), m.register(w.Rs2)) {
		m.pc = w.pc + uint32(w.Imm)
	}
}

func (w branch) taken(a, b uint32) bool {
	switch w.Op {
	case api.Beq:
		return a == b
	case api.Bne:
		return a != b
	case api.Blt:
		return int32(a) < int32(b)
	case api.Bge:
		return int32(a) >= int32(b)
	case api.Bltu:
		return a < b
	}
	return a >= b
}

func (w pause) do(m *Machine) {
	m.pc = w.next()
}

func (w halt) do(m *Machine) {
	m.cause = w.cause
}

package machine

import (
	"hart/api"
	"hart/code"
)

// shiftBits are those of b that tell how far.
const shiftBits = 31

// result is what Rd becomes.
func (w compute) result(m *Machine) uint32 {
	a, b := m.register(w.Rs1), w.operand(m)
	switch w.Op {
	case api.Lui:
		return b << 12
	case api.Auipc:
		return w.pc + b<<12
	case api.Mul, api.Mulh, api.Mulhsu, api.Mulhu:
		return product(w.Op, a, b)
	case api.Div, api.Divu, api.Rem, api.Remu:
		return quotient(w.Op, a, b)
	case api.Slli, api.Sll, api.Srli, api.Srl, api.Srai, api.Sra:
		return shifted(w.Op, a, b&shiftBits)
	}
	return combined(w.Op, a, b)
}

// operand is the second one: a register, or Imm, where the format has that in its stead.
func (w compute) operand(m *Machine) uint32 {
	if code.FormatOf(w.Op) == code.FormatR {
		return m.register(w.Rs2)
	}
	return uint32(w.Imm)
}

func combined(op int, a, b uint32) uint32 {
	switch op {
	case api.Addi, api.Add:
		return a + b
	case api.Sub:
		return a - b
	case api.Xori, api.Xor:
		return a ^ b
	case api.Ori, api.Or:
		return a | b
	case api.Andi, api.And:
		return a & b
	case api.Slti, api.Slt:
		return oneIf(int32(a) < int32(b))
	}
	return oneIf(a < b)
}

func oneIf(holds bool) uint32 {
	if holds {
		return 1
	}
	return 0
}

func shifted(op int, a, by uint32) uint32 {
	switch op {
	case api.Slli, api.Sll:
		return a << by
	case api.Srli, api.Srl:
		return a >> by
	}
	return uint32(int32(a) >> by)
}

// product has room for all of a product's 64 bits, whatever the signs are.
func product(op int, a, b uint32) uint32 {
	switch op {
	case api.Mulh:
		return uint32(int64(int32(a)) * int64(int32(b)) >> 32)
	case api.Mulhsu:
		return uint32(int64(int32(a)) * int64(b) >> 32)
	case api.Mulhu:
		return uint32(uint64(a) * uint64(b) >> 32)
	}
	return a * b
}

// quotient leaves the least number by -1 to the language: it goes round, and the rest is 0.
func quotient(op int, a, b uint32) uint32 {
	switch {
	case b == 0 && (op == api.Div || op == api.Divu):
		return 1<<32 - 1
	case b == 0:
		return a
	case op == api.Div:
		return uint32(int32(a) / int32(b))
	case op == api.Divu:
		return a / b
	case op == api.Rem:
		return uint32(int32(a) % int32(b))
	}
	return a % b
}

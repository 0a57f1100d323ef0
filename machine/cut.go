package machine

import (
	"hart/api"
	"hart/code"
)

// endlessBits are all 1 in a parcel that would begin something longer than 32 bits: no parcel behind it can make an instruction of it.
const endlessBits = 31

// cut tells the work of the instruction that begins k parcels behind the buffer's first; nil, if it is not whole there.
func (m *Machine) cut(k int) work {
	if k >= len(m.parcels) {
		return nil
	}
	first := m.parcels[k]
	inst, err := code.Expand(first.bits)
	if err != api.ErrWide || first.bits&endlessBits == endlessBits {
		// Of what is illegal inst has no Op, so it halts.
		return workOf(common{Inst: inst, pc: first.addr, parcels: 1})
	}
	if k+1 >= len(m.parcels) {
		return nil
	}
	inst, _ = code.Decode(uint32(m.parcels[k+1].bits)<<16 | uint32(first.bits))
	return workOf(common{Inst: inst, pc: first.addr, parcels: 2})
}

// isPair tells whether both are done in one tick. Register 0 would not hand on what the first made.
func isPair(first, second common) bool {
	d := first.Rd
	return d != 0 && second.Rd == d && second.Rs1 == d && second.Op == secondOf(first.Op)
}

// secondOf tells the Op that makes a pair with this one; 0, if none does.
func secondOf(op int) int {
	switch op {
	case api.Lui, api.Auipc:
		return api.Addi
	case api.Slli:
		return api.Srli
	}
	return 0
}

// Package code knows the instructions as numbers of 32 bits and of 16: which are legal, and which bits are which.
package code

import "hart/api"

// Legal tells whether an instruction is legal.
func Legal(i api.Inst) bool {
	f := rowOf(i.Op).format
	if f == FormatNone {
		return false
	}
	l := layoutOf(f)
	return fits(i.Rd, l.rd) && fits(i.Rs1, l.rs1) && fits(i.Rs2, l.rs2) && l.imm.holds(i.Imm)
}

// fits tells whether a register's field is right: what is not used is 0.
func fits(register int, used bool) bool {
	if !used {
		return register == 0
	}
	return register >= 0 && register < registers
}

// Encode tells an instruction's 32 bits.
func Encode(i api.Inst) (uint32, api.Errno) {
	if !Legal(i) {
		return 0, api.ErrField
	}
	r := rowOf(i.Op)
	// What is not used is 0, so it may be put where other things lie.
	w := r.bits | uint32(i.Rd)<<rdAt | uint32(i.Rs1)<<rs1At | uint32(i.Rs2)<<rs2At
	for _, p := range layoutOf(r.format).pieces {
		w |= p.put(uint32(i.Imm))
	}
	return w, api.OK
}

// Decode tells the instruction that has these bits.
func Decode(w uint32) (api.Inst, api.Errno) {
	for op := firstOp; op <= lastOp; op++ {
		r := rowOf(op)
		if w&tellingBits(r.format) == r.bits {
			return read(op, layoutOf(r.format), w), api.OK
		}
	}
	return api.Inst{}, api.ErrIllegal
}

func read(op int, l layout, w uint32) api.Inst {
	return api.Inst{
		Op:  op,
		Rd:  register(w>>rdAt, l.rd),
		Rs1: register(w>>rs1At, l.rs1),
		Rs2: register(w>>rs2At, l.rs2),
		Imm: immediate(l, w),
	}
}

func register(w uint32, used bool) int {
	if !used {
		return 0
	}
	return int(w & registerMask)
}

func immediate(l layout, w uint32) int {
	var n uint32
	for _, p := range l.pieces {
		n |= p.take(w)
	}
	return l.imm.signed(int(n))
}

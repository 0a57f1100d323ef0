package code

import "hart/api"

// wideBits are both 1 in a parcel that is no short instruction.
const wideBits = 3

// Expand tells the instruction that a parcel is.
func Expand(parcel uint16) (api.Inst, api.Errno) {
	if parcel&wideBits == wideBits {
		return api.Inst{}, api.ErrWide
	}
	for k := range shortRows {
		if i, ok := shortRows[k].read(parcel); ok {
			return i, api.OK
		}
	}
	return api.Inst{}, api.ErrIllegal
}

// Compress tells the least parcel that is the same instruction.
func Compress(i api.Inst) (uint16, api.Errno) {
	if !Legal(i) {
		return 0, api.ErrField
	}
	least, err := uint16(0), api.ErrNone
	for k := range shortRows {
		parcel, ok := shortRows[k].write(i)
		if ok && (err != api.OK || parcel < least) {
			least, err = parcel, api.OK
		}
	}
	return least, err
}

// read tells the instruction that a parcel is, and whether it is one of this row.
func (r shortRow) read(parcel uint16) (api.Inst, bool) {
	if parcel&r.mask != r.bits {
		return api.Inst{}, false
	}
	op := int(r.op)
	i := api.Inst{
		Op:  op,
		Rd:  r.rd.take(parcel),
		Rs1: r.rs1.take(parcel),
		Rs2: r.rs2.take(parcel),
		Imm: layoutOf(rowOf(op).format).imm.wrapped(r.imm.take(parcel)),
	}
	return i, !r.not.hits(i)
}

// write tells a parcel of this row, and whether it is the instruction: the row may have no room for some operand, or one place for two that differ, so it is read back.
func (r shortRow) write(i api.Inst) (uint16, bool) {
	if i.Op != int(r.op) {
		return 0, false
	}
	parcel := r.bits | r.rd.put(i.Rd) | r.rs1.put(i.Rs1) | r.rs2.put(i.Rs2) | r.imm.put(i.Imm)
	back, ok := r.read(parcel)
	return parcel, ok && back == i
}

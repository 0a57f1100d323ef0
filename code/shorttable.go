package code

import "hart/api"

// shortRow is a kind of short instruction: the bits under mask tell it; the others are its operands.
type shortRow struct {
	mask, bits   uint16
	op           uint8
	rd, rs1, rs2 place
	imm          spread
	not          ban
}

// No two rows have a parcel in common, so their order does not matter.
var shortRows = [...]shortRow{
	{mask: 0xe003, bits: 0x0000, op: api.Addi, rd: lowThree, rs1: isTwo, imm: spreadAddress, not: immNought},
	{mask: 0xe003, bits: 0x4000, op: api.Lw, rd: lowThree, rs1: highThree, imm: spreadWord},
	{mask: 0xe003, bits: 0xc000, op: api.Sw, rs1: highThree, rs2: lowThree, imm: spreadWord},

	{mask: 0xe003, bits: 0x0001, op: api.Addi, rd: highFive, rs1: highFive, imm: spreadSix},
	{mask: 0xe003, bits: 0x2001, op: api.Jal, rd: isOne, imm: spreadJump},
	{mask: 0xe003, bits: 0x4001, op: api.Addi, rd: highFive, imm: spreadSix},
	{mask: 0xef83, bits: 0x6101, op: api.Addi, rd: isTwo, rs1: isTwo, imm: spreadStack, not: immNought},
	{mask: 0xe003, bits: 0x6001, op: api.Lui, rd: highFive, imm: spreadSix, not: rdTwo | immNought},
	{mask: 0xfc03, bits: 0x8001, op: api.Srli, rd: highThree, rs1: highThree, imm: spreadFive},
	{mask: 0xfc03, bits: 0x8401, op: api.Srai, rd: highThree, rs1: highThree, imm: spreadFive},
	{mask: 0xec03, bits: 0x8801, op: api.Andi, rd: highThree, rs1: highThree, imm: spreadSix},
	{mask: 0xfc63, bits: 0x8c01, op: api.Sub, rd: highThree, rs1: highThree, rs2: lowThree},
	{mask: 0xfc63, bits: 0x8c21, op: api.Xor, rd: highThree, rs1: highThree, rs2: lowThree},
	{mask: 0xfc63, bits: 0x8c41, op: api.Or, rd: highThree, rs1: highThree, rs2: lowThree},
	{mask: 0xfc63, bits: 0x8c61, op: api.And, rd: highThree, rs1: highThree, rs2: lowThree},
	{mask: 0xe003, bits: 0xa001, op: api.Jal, imm: spreadJump},
	{mask: 0xe003, bits: 0xc001, op: api.Beq, rs1: highThree, imm: spreadBranch},
	{mask: 0xe003, bits: 0xe001, op: api.Bne, rs1: highThree, imm: spreadBranch},

	{mask: 0xf003, bits: 0x0002, op: api.Slli, rd: highFive, rs1: highFive, imm: spreadFive},
	{mask: 0xe003, bits: 0x4002, op: api.Lw, rd: highFive, rs1: isTwo, imm: spreadLoad, not: rdNought},
	{mask: 0xf07f, bits: 0x8002, op: api.Jalr, rs1: highFive, not: rs1Nought},
	{mask: 0xf003, bits: 0x8002, op: api.Add, rd: highFive, rs2: lowFive, not: rs2Nought},
	{mask: 0xffff, bits: 0x9002, op: api.Ebreak},
	{mask: 0xf07f, bits: 0x9002, op: api.Jalr, rd: isOne, rs1: highFive, not: rs1Nought},
	{mask: 0xf003, bits: 0x9002, op: api.Add, rd: highFive, rs1: highFive, rs2: lowFive, not: rs2Nought},
	{mask: 0xe003, bits: 0xc002, op: api.Sw, rs1: isTwo, rs2: lowFive, imm: spreadStore},
}

// ban is what a row's operands may not be; several are joined by |.
type ban uint8

const (
	immNought ban = 1 << iota
	rdNought
	rdTwo
	rs1Nought
	rs2Nought
)

func (b ban) hits(i api.Inst) bool {
	return b.has(immNought) && i.Imm == 0 ||
		b.has(rdNought) && i.Rd == 0 ||
		b.has(rdTwo) && i.Rd == 2 ||
		b.has(rs1Nought) && i.Rs1 == 0 ||
		b.has(rs2Nought) && i.Rs2 == 0
}

func (b ban) has(one ban) bool { return b&one != 0 }

// Package source knows the instructions as words of a text: it prints one, and assembles the lines of a source.
package source

import (
	"slices"
	"strings"

	"hart/api"
	"hart/code"
)

// opNames are the Ops' names in the order of their numbers, from firstOp on.
const opNames = "lui auipc jal jalr beq bne blt bge bltu bgeu " +
	"lb lh lw lbu lhu sb sh sw " +
	"addi slti sltiu xori ori andi slli srli srai " +
	"add sub sll slt sltu xor srl sra or and " +
	"mul mulh mulhsu mulhu div divu rem remu " +
	"fence ecall ebreak"

const firstOp = api.Lui

func nameOf(op int) string {
	return strings.Fields(opNames)[op-firstOp]
}

// opOf answers ErrSyntax, if no Op has this name.
func opOf(name string) (int, error) {
	k := slices.Index(strings.Fields(opNames), name)
	if k < 0 {
		return 0, ErrSyntax
	}
	return k + firstOp, nil
}

// operand is what may stand between an instruction's commas.
type operand uint8

const (
	rd operand = iota
	rs1
	rs2
	number
	address // a number and, in brackets, Rs1
	target
)

// operandsOf serves both directions, so that what is printed can be read.
func operandsOf(op int) []operand {
	switch code.FormatOf(op) {
	case code.FormatR:
		return []operand{rd, rs1, rs2}
	case code.FormatI, code.FormatH:
		if isLoad(op) {
			return []operand{rd, address}
		}
		return []operand{rd, rs1, number}
	case code.FormatS:
		return []operand{rs2, address}
	case code.FormatB:
		return []operand{rs1, rs2, target}
	case code.FormatU:
		return []operand{rd, number}
	case code.FormatJ:
		return []operand{rd, target}
	}
	return nil
}

func isLoad(op int) bool {
	return op >= api.Lb && op <= api.Lhu
}

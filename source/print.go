package source

import (
	"strconv"
	"strings"

	"hart/api"
	"hart/code"
)

// Print tells an instruction in words.
func Print(i api.Inst) (string, api.Errno) {
	if !code.Legal(i) {
		return "", api.ErrField
	}
	var operands []string
	for _, o := range operandsOf(i.Op) {
		operands = append(operands, o.print(i))
	}
	if operands == nil {
		return nameOf(i.Op), api.OK
	}
	return nameOf(i.Op) + " " + strings.Join(operands, ", "), api.OK
}

func (o operand) print(i api.Inst) string {
	switch o {
	case rd:
		return registerName(i.Rd)
	case rs1:
		return registerName(i.Rs1)
	case rs2:
		return registerName(i.Rs2)
	case address:
		return strconv.Itoa(i.Imm) + "(" + registerName(i.Rs1) + ")"
	}
	return strconv.Itoa(i.Imm)
}

func registerName(n int) string {
	return "x" + strconv.Itoa(n)
}

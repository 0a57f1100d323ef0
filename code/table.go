package code

import "hart/api"

// row is what is the same in every instruction of an Op; all other bits are 0 in it.
type row struct {
	format format
	bits   uint32
}

var rows = [...]row{
	api.Lui:    {formatU, 0x00000037},
	api.Auipc:  {formatU, 0x00000017},
	api.Jal:    {formatJ, 0x0000006f},
	api.Jalr:   {formatI, 0x00000067},
	api.Beq:    {formatB, 0x00000063},
	api.Bne:    {formatB, 0x00001063},
	api.Blt:    {formatB, 0x00004063},
	api.Bge:    {formatB, 0x00005063},
	api.Bltu:   {formatB, 0x00006063},
	api.Bgeu:   {formatB, 0x00007063},
	api.Lb:     {formatI, 0x00000003},
	api.Lh:     {formatI, 0x00001003},
	api.Lw:     {formatI, 0x00002003},
	api.Lbu:    {formatI, 0x00004003},
	api.Lhu:    {formatI, 0x00005003},
	api.Sb:     {formatS, 0x00000023},
	api.Sh:     {formatS, 0x00001023},
	api.Sw:     {formatS, 0x00002023},
	api.Addi:   {formatI, 0x00000013},
	api.Slti:   {formatI, 0x00002013},
	api.Sltiu:  {formatI, 0x00003013},
	api.Xori:   {formatI, 0x00004013},
	api.Ori:    {formatI, 0x00006013},
	api.Andi:   {formatI, 0x00007013},
	api.Slli:   {formatH, 0x00001013},
	api.Srli:   {formatH, 0x00005013},
	api.Srai:   {formatH, 0x40005013},
	api.Add:    {formatR, 0x00000033},
	api.Sub:    {formatR, 0x40000033},
	api.Sll:    {formatR, 0x00001033},
	api.Slt:    {formatR, 0x00002033},
	api.Sltu:   {formatR, 0x00003033},
	api.Xor:    {formatR, 0x00004033},
	api.Srl:    {formatR, 0x00005033},
	api.Sra:    {formatR, 0x40005033},
	api.Or:     {formatR, 0x00006033},
	api.And:    {formatR, 0x00007033},
	api.Mul:    {formatR, 0x02000033},
	api.Mulh:   {formatR, 0x02001033},
	api.Mulhsu: {formatR, 0x02002033},
	api.Mulhu:  {formatR, 0x02003033},
	api.Div:    {formatR, 0x02004033},
	api.Divu:   {formatR, 0x02005033},
	api.Rem:    {formatR, 0x02006033},
	api.Remu:   {formatR, 0x02007033},
	api.Fence:  {formatFence, 0x0000000f},
	api.Ecall:  {formatN, 0x00000073},
	api.Ebreak: {formatN, 0x00100073},
}

const (
	firstOp = api.Lui
	lastOp  = api.Ebreak
)

// rowOf answers an empty row, of no format, if there is no such Op.
func rowOf(op int) row {
	if op < firstOp || op > lastOp {
		return row{}
	}
	return rows[op]
}

package code

import "hart/api"

// row is what is the same in every instruction of an Op; all other bits are 0 in it.
type row struct {
	format Format
	bits   uint32
}

var rows = [...]row{
	api.Lui:    {FormatU, 0x00000037},
	api.Auipc:  {FormatU, 0x00000017},
	api.Jal:    {FormatJ, 0x0000006f},
	api.Jalr:   {FormatI, 0x00000067},
	api.Beq:    {FormatB, 0x00000063},
	api.Bne:    {FormatB, 0x00001063},
	api.Blt:    {FormatB, 0x00004063},
	api.Bge:    {FormatB, 0x00005063},
	api.Bltu:   {FormatB, 0x00006063},
	api.Bgeu:   {FormatB, 0x00007063},
	api.Lb:     {FormatI, 0x00000003},
	api.Lh:     {FormatI, 0x00001003},
	api.Lw:     {FormatI, 0x00002003},
	api.Lbu:    {FormatI, 0x00004003},
	api.Lhu:    {FormatI, 0x00005003},
	api.Sb:     {FormatS, 0x00000023},
	api.Sh:     {FormatS, 0x00001023},
	api.Sw:     {FormatS, 0x00002023},
	api.Addi:   {FormatI, 0x00000013},
	api.Slti:   {FormatI, 0x00002013},
	api.Sltiu:  {FormatI, 0x00003013},
	api.Xori:   {FormatI, 0x00004013},
	api.Ori:    {FormatI, 0x00006013},
	api.Andi:   {FormatI, 0x00007013},
	api.Slli:   {FormatH, 0x00001013},
	api.Srli:   {FormatH, 0x00005013},
	api.Srai:   {FormatH, 0x40005013},
	api.Add:    {FormatR, 0x00000033},
	api.Sub:    {FormatR, 0x40000033},
	api.Sll:    {FormatR, 0x00001033},
	api.Slt:    {FormatR, 0x00002033},
	api.Sltu:   {FormatR, 0x00003033},
	api.Xor:    {FormatR, 0x00004033},
	api.Srl:    {FormatR, 0x00005033},
	api.Sra:    {FormatR, 0x40005033},
	api.Or:     {FormatR, 0x00006033},
	api.And:    {FormatR, 0x00007033},
	api.Mul:    {FormatR, 0x02000033},
	api.Mulh:   {FormatR, 0x02001033},
	api.Mulhsu: {FormatR, 0x02002033},
	api.Mulhu:  {FormatR, 0x02003033},
	api.Div:    {FormatR, 0x02004033},
	api.Divu:   {FormatR, 0x02005033},
	api.Rem:    {FormatR, 0x02006033},
	api.Remu:   {FormatR, 0x02007033},
	api.Fence:  {FormatFence, 0x0000000f},
	api.Ecall:  {FormatN, 0x00000073},
	api.Ebreak: {FormatN, 0x00100073},
}

const (
	firstOp = api.Lui
	lastOp  = api.Ebreak
)

// rowOf answers an empty row, of no format, if there is no such Op.
func rowOf(op int) row {
	if op < firstOp || op > lastOp {
		return row{}
	}
	return rows[op]
}

// FormatOf answers FormatNone, if there is no such Op.
func FormatOf(op int) Format {
	return rowOf(op).format
}

package hart_test

import (
	"strings"

	"hart/api"
)

// The document's table of the short ones, told a second time: its own pictures, but with = ahead of bits that are always the same.

// short is a row of the document's table.
type short struct {
	picture string
	op      int
	d, s, t int // registers that no bits tell; same: s is d
	signed  bool
	allowed func(i api.Inst) bool
}

const same = -1

func anyOperands(api.Inst) bool { return true }

func immNotNought(i api.Inst) bool { return i.Imm != 0 }

func shorts() []short {
	return []short{
		{"=000 54 9876 2 3 ddd =00", api.Addi, 0, 2, 0, false, immNotNought},
		{"=010 543 sss 2 6 ddd =00", api.Lw, 0, 0, 0, false, anyOperands},
		{"=110 543 sss 2 6 ttt =00", api.Sw, 0, 0, 0, false, anyOperands},
		{"=000 5 ddddd 43210 =01", api.Addi, 0, same, 0, true, anyOperands},
		{"=001 b498a67321 5 =01", api.Jal, 1, 0, 0, true, anyOperands},
		{"=010 5 ddddd 43210 =01", api.Addi, 0, 0, 0, true, anyOperands},
		{"=011 9 =00010 4 6 8 7 5 =01", api.Addi, 2, 2, 0, true, immNotNought},
		{"=011 5 ddddd 43210 =01", api.Lui, 0, 0, 0, true, func(i api.Inst) bool { return i.Rd != 2 && i.Imm != 0 }},
		{"=100 =0 =00 ddd 43210 =01", api.Srli, 0, same, 0, false, anyOperands},
		{"=100 =0 =01 ddd 43210 =01", api.Srai, 0, same, 0, false, anyOperands},
		{"=100 5 =10 ddd 43210 =01", api.Andi, 0, same, 0, true, anyOperands},
		{"=100 =0 =11 ddd =00 ttt =01", api.Sub, 0, same, 0, false, anyOperands},
		{"=100 =0 =11 ddd =01 ttt =01", api.Xor, 0, same, 0, false, anyOperands},
		{"=100 =0 =11 ddd =10 ttt =01", api.Or, 0, same, 0, false, anyOperands},
		{"=100 =0 =11 ddd =11 ttt =01", api.And, 0, same, 0, false, anyOperands},
		{"=101 b498a67321 5 =01", api.Jal, 0, 0, 0, true, anyOperands},
		{"=110 8 43 sss 76 21 5 =01", api.Beq, 0, 0, 0, true, anyOperands},
		{"=111 8 43 sss 76 21 5 =01", api.Bne, 0, 0, 0, true, anyOperands},
		{"=000 =0 ddddd 43210 =10", api.Slli, 0, same, 0, false, anyOperands},
		{"=010 5 ddddd 432 76 =10", api.Lw, 0, 2, 0, false, func(i api.Inst) bool { return i.Rd != 0 }},
		{"=100 =0 sssss =00000 =10", api.Jalr, 0, 0, 0, false, func(i api.Inst) bool { return i.Rs1 != 0 }},
		{"=100 =0 ddddd ttttt =10", api.Add, 0, 0, 0, false, func(i api.Inst) bool { return i.Rs2 != 0 }},
		{"=100 =1 =00000 =00000 =10", api.Ebreak, 0, 0, 0, false, anyOperands},
		{"=100 =1 sssss =00000 =10", api.Jalr, 1, 0, 0, false, func(i api.Inst) bool { return i.Rs1 != 0 }},
		{"=100 =1 ddddd ttttt =10", api.Add, 0, same, 0, false, func(i api.Inst) bool { return i.Rs2 != 0 }},
		{"=110 5432 76 ttttt =10", api.Sw, 0, 2, 0, false, anyOperands},
	}
}

// matches goes through a picture from bit 15 down: whether the bits that are always the same are so, the fields' numbers, how wide they are, and Imm's highest bit.
func (r short) matches(p uint16) (ok bool, values, widths map[rune]int, highest int) {
	values, widths = map[rune]int{}, map[rune]int{}
	at := 15
	for _, part := range strings.Fields(r.picture) {
		always := strings.HasPrefix(part, "=")
		for _, c := range strings.TrimPrefix(part, "=") {
			bit := int(p >> at & 1)
			at--
			switch {
			case always:
				if bit != int(c-'0') {
					return false, nil, nil, 0
				}
			case strings.ContainsRune("dst", c):
				values[c] = values[c]<<1 | bit
				widths[c]++
			default:
				place := strings.IndexRune("0123456789ab", c)
				values['i'] |= bit << place
				highest = max(highest, place)
			}
		}
	}
	return true, values, widths, highest
}

// inst tells the instruction that a parcel is by this row; false, if it is none.
func (r short) inst(p uint16) (api.Inst, bool) {
	ok, values, widths, highest := r.matches(p)
	if !ok {
		return api.Inst{}, false
	}
	register := func(c rune, untold int) int {
		switch widths[c] {
		case 3:
			return values[c] + 8
		case 5:
			return values[c]
		}
		return untold
	}
	i := api.Inst{Op: r.op, Rd: register('d', r.d), Rs1: register('s', r.s), Rs2: register('t', r.t), Imm: values['i']}
	if i.Rs1 == same {
		i.Rs1 = i.Rd
	}
	if r.signed && i.Imm>>highest != 0 {
		i.Imm -= 2 << highest
	}
	if r.op == api.Lui && i.Imm < 0 {
		i.Imm += 1 << 20
	}
	return i, r.allowed(i)
}

// shortOf tells the instruction that a parcel is by the pictures, and how many rows have it.
func shortOf(all []short, p uint16) (found api.Inst, rows int) {
	for _, r := range all {
		if i, ok := r.inst(p); ok {
			found = i
			rows++
		}
	}
	return found, rows
}

// leastParcels tells of each short instruction the least parcel by the pictures.
func leastParcels() map[api.Inst]uint16 {
	least := map[api.Inst]uint16{}
	all := shorts()
	for p := 0xffff; p >= 0; p-- {
		if i, rows := shortOf(all, uint16(p)); rows > 0 {
			least[i] = uint16(p)
		}
	}
	return least
}

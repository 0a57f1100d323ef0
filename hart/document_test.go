package hart_test

import (
	"strconv"
	"strings"

	"hart/api"
)

// The document's tables, told a second time and in another way than the program tells them, so that an error in the program's own does not hide.

// entry is an Op as the document's table has it.
type entry struct {
	op     int
	format string
	opcode uint32
	f3, f7 uint32
}

// series makes entries of Ops that follow one another and differ by f3.
func series(first int, format string, opcode, f7 uint32, f3 ...uint32) []entry {
	var out []entry
	for k, n := range f3 {
		out = append(out, entry{first + k, format, opcode, n, f7})
	}
	return out
}

func entries() []entry {
	var out []entry
	for _, part := range [][]entry{
		series(1, "U", 0x37, 0, 0),
		series(2, "U", 0x17, 0, 0),
		series(3, "J", 0x6f, 0, 0),
		series(4, "I", 0x67, 0, 0),
		series(5, "B", 0x63, 0, 0, 1, 4, 5, 6, 7),
		series(11, "I", 0x03, 0, 0, 1, 2, 4, 5),
		series(16, "S", 0x23, 0, 0, 1, 2),
		series(19, "I", 0x13, 0, 0, 2, 3, 4, 6, 7),
		series(25, "H", 0x13, 0, 1, 5),
		series(27, "H", 0x13, 0x20, 5),
		series(28, "R", 0x33, 0, 0),
		series(29, "R", 0x33, 0x20, 0),
		series(30, "R", 0x33, 0, 1, 2, 3, 4, 5),
		series(35, "R", 0x33, 0x20, 5),
		series(36, "R", 0x33, 0, 6, 7),
		series(38, "R", 0x33, 1, 0, 1, 2, 3, 4, 5, 6, 7),
		series(46, "fence", 0x0f, 0, 0),
		series(47, "N", 0x73, 0, 0),
		series(48, "N", 0x73, 0, 0),
	} {
		out = append(out, part...)
	}
	return out
}

// picture is a format from bit 31 down to bit 7: a field and its bits, the highest first.
func picture(format string) string {
	switch format {
	case "R":
		return "f7:6-0 t:4-0 s:4-0 f3:2-0 d:4-0"
	case "I":
		return "i:11-0 s:4-0 f3:2-0 d:4-0"
	case "H":
		return "f7:6-0 i:4-0 s:4-0 f3:2-0 d:4-0"
	case "S":
		return "i:11-5 t:4-0 s:4-0 f3:2-0 i:4-0"
	case "B":
		return "i:12-12 i:10-5 t:4-0 s:4-0 f3:2-0 i:4-1 i:11-11"
	case "U":
		return "i:19-0 d:4-0"
	case "J":
		return "i:20-20 i:10-1 i:11-11 i:19-12 d:4-0"
	case "fence":
		return "-:16-0 f3:2-0 -:4-0"
	}
	return "N:24-0"
}

// immBounds tells the least and the greatest Imm of a format, and how far apart two are.
func immBounds(format string) (least, most, step int) {
	switch format {
	case "I", "S":
		return -2048, 2047, 1
	case "H":
		return 0, 31, 1
	case "B":
		return -4096, 4094, 2
	case "U":
		return 0, 1048575, 1
	case "J":
		return -1048576, 1048574, 2
	}
	return 0, 0, 1
}

func uses(format, field string) bool {
	return strings.Contains(" "+picture(format), " "+field+":")
}

// eachBit goes through a picture bit by bit, from bit 31 down to bit 7.
func eachBit(format string, visit func(at int, field string, bit int)) {
	at := 31
	for _, part := range strings.Fields(picture(format)) {
		field, span, _ := strings.Cut(part, ":")
		high, low, _ := strings.Cut(span, "-")
		from, _ := strconv.Atoi(high)
		to, _ := strconv.Atoi(low)
		for bit := from; bit >= to; bit-- {
			visit(at, field, bit)
			at--
		}
	}
}

// bitsOf tells an instruction's bits by its format's picture.
func bitsOf(e entry, i api.Inst) uint32 {
	values := map[string]uint32{"d": uint32(i.Rd), "s": uint32(i.Rs1), "t": uint32(i.Rs2), "i": uint32(i.Imm), "f3": e.f3, "f7": e.f7}
	if e.op == api.Ebreak {
		values["N"] = 0x00100073 >> 7
	}
	w := e.opcode
	eachBit(e.format, func(at int, field string, bit int) {
		w |= values[field] >> bit & 1 << at
	})
	return w
}

// instOf tells the instruction that some bits are, by the pictures; false, if none.
func instOf(all []entry, w uint32) (api.Inst, bool) {
	for _, e := range all {
		if w&0x7f != e.opcode {
			continue
		}
		values := map[string]uint32{}
		eachBit(e.format, func(at int, field string, bit int) {
			values[field] |= w >> at & 1 << bit
		})
		if uses(e.format, "f3") && values["f3"] != e.f3 || uses(e.format, "f7") && values["f7"] != e.f7 {
			continue
		}
		if e.format == "N" && w != bitsOf(e, api.Inst{}) {
			continue
		}
		imm := int(values["i"])
		if least, most, _ := immBounds(e.format); imm > most {
			imm -= 2 * -least
		}
		return api.Inst{Op: e.op, Rd: int(values["d"]), Rs1: int(values["s"]), Rs2: int(values["t"]), Imm: imm}, true
	}
	return api.Inst{}, false
}

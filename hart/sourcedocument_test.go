package hart_test

import (
	"math/big"
	"regexp"
	"strconv"
	"strings"

	"hart/api"
)

// What the document says of texts, told a second time: its words as patterns, and an assembler that goes by them and by the pictures of the instructions alone.

const (
	namePattern     = `[A-Za-z_][A-Za-z0-9_]{0,19}`
	numberPattern   = `-?(?:0x[0-9A-Fa-f]{1,10}|[0-9]{1,10})`
	registerPattern = `x(?:[0-9]|[12][0-9]|3[01])`
	blankPattern    = `[ \t]*`
)

// namesByNumber is the document's table of Ops, read from left to right.
const namesByNumber = `1 lui, 2 auipc, 3 jal, 4 jalr, 5 beq, 6 bne, 7 blt, 8 bge, 9 bltu, 10 bgeu,
11 lb, 12 lh, 13 lw, 14 lbu, 15 lhu, 16 sb, 17 sh, 18 sw,
19 addi, 20 slti, 21 sltiu, 22 xori, 23 ori, 24 andi, 25 slli, 26 srli, 27 srai,
28 add, 29 sub, 30 sll, 31 slt, 32 sltu, 33 xor, 34 srl, 35 sra, 36 or, 37 and,
38 mul, 39 mulh, 40 mulhsu, 41 mulhu, 42 div, 43 divu, 44 rem, 45 remu, 46 fence, 47 ecall, 48 ebreak`

func nameByNumber(op int) string {
	for _, part := range strings.Split(namesByNumber, ",") {
		words := strings.Fields(part)
		if words[0] == strconv.Itoa(op) {
			return words[1]
		}
	}
	return ""
}

// template is an Op's operands: d, s and t are registers, n is a number, g a target.
func template(e entry) string {
	switch {
	case e.opcode == 0x03:
		return "d, n(s)"
	case e.format == "R":
		return "d, s, t"
	case e.format == "I", e.format == "H":
		return "d, s, n"
	case e.format == "S":
		return "t, n(s)"
	case e.format == "B":
		return "s, t, g"
	case e.format == "U":
		return "d, n"
	case e.format == "J":
		return "d, g"
	}
	return ""
}

// textOf tells an instruction in words by its Op's template, with imm where Imm stands.
func textOf(e entry, i api.Inst, imm string) string {
	out := nameByNumber(e.op)
	if template(e) == "" {
		return out
	}
	out += " "
	for _, c := range template(e) {
		switch c {
		case 'd':
			out += "x" + strconv.Itoa(i.Rd)
		case 's':
			out += "x" + strconv.Itoa(i.Rs1)
		case 't':
			out += "x" + strconv.Itoa(i.Rs2)
		case 'n', 'g':
			out += imm
		default:
			out += string(c)
		}
	}
	return out
}

// patternOf is what a statement of the Op looks like.
func patternOf(e entry) *regexp.Regexp {
	out := `^(?P<c>c\.)?` + nameByNumber(e.op)
	if template(e) != "" {
		out += `[ \t]+`
	}
	for _, c := range template(e) {
		switch c {
		case 'd', 's', 't':
			out += `(?P<` + string(c) + `>` + registerPattern + `)`
		case 'n':
			out += `(?P<n>` + numberPattern + `)`
		case 'g':
			out += `(?:(?P<n>` + numberPattern + `)|(?P<g>` + namePattern + `))`
		case ',', '(':
			out += blankPattern + regexp.QuoteMeta(string(c)) + blankPattern
		case ')':
			out += blankPattern + `\)`
		}
	}
	return regexp.MustCompile(out + `$`)
}

var (
	linePattern      = regexp.MustCompile(`(?s)^` + blankPattern + `(?:(` + namePattern + `):)?` + blankPattern + `(.*?)` + blankPattern + `$`)
	directivePattern = regexp.MustCompile(`^\.(byte|half|word)[ \t]+(` + numberPattern + `(?:` + blankPattern + `,` + blankPattern + numberPattern + `)*)$`)
	spacePattern     = regexp.MustCompile(`^\.space[ \t]+(` + numberPattern + `)$`)
)

// telling is an assembler by the document's words.
type telling struct {
	all      []entry
	patterns []*regexp.Regexp
	least    map[api.Inst]uint16
}

func newTelling() telling {
	out := telling{all: entries(), least: leastParcels()}
	for _, e := range out.all {
		out.patterns = append(out.patterns, patternOf(e))
	}
	return out
}

// told is a line as it was read.
type told struct {
	label, target string
	at, size      int
	short, data   bool
	entry         entry
	inst          api.Inst
	bytes         string
	wrong         api.Errno // of its numbers
}

func numberOf(text string) int {
	digits, base := strings.TrimPrefix(text, "-"), 10
	if strings.HasPrefix(digits, "0x") {
		digits, base = digits[2:], 16
	}
	n, ok := new(big.Int).SetString(digits, base)
	if !ok {
		panic("the pattern let pass " + text)
	}
	if strings.HasPrefix(text, "-") {
		n.Neg(n)
	}
	return int(n.Int64())
}

func littleEndian(n uint64, size int) string {
	var out []byte
	for range size {
		out = append(out, byte(n))
		n >>= 8
	}
	return string(out)
}

// finish makes an instruction's bytes, now that its Imm is known.
func (a telling) finish(l *told) api.Errno {
	least, most, step := immBounds(l.entry.format)
	if l.inst.Imm < least || l.inst.Imm > most || l.inst.Imm%step != 0 {
		return api.ErrRange
	}
	if !l.short {
		l.bytes = littleEndian(uint64(bitsOf(l.entry, l.inst)), 4)
		return api.OK
	}
	parcel, ok := a.least[l.inst]
	if !ok {
		return api.ErrNone
	}
	l.bytes = littleEndian(uint64(parcel), 2)
	return api.OK
}

func (a telling) readInstruction(text string, l *told) bool {
	for k, pattern := range a.patterns {
		found := pattern.FindStringSubmatch(text)
		if found == nil {
			continue
		}
		l.entry = a.all[k]
		l.inst.Op = l.entry.op
		l.size = 4
		for at, name := range pattern.SubexpNames() {
			if found[at] == "" {
				continue
			}
			switch name {
			case "c":
				l.short, l.size = true, 2
			case "d":
				l.inst.Rd, _ = strconv.Atoi(found[at][1:])
			case "s":
				l.inst.Rs1, _ = strconv.Atoi(found[at][1:])
			case "t":
				l.inst.Rs2, _ = strconv.Atoi(found[at][1:])
			case "n":
				l.inst.Imm = numberOf(found[at])
			case "g":
				l.target = found[at]
			}
		}
		if l.target == "" {
			l.wrong = a.finish(l)
		}
		return true
	}
	return false
}

func readDirective(text string, l *told) bool {
	if found := spacePattern.FindStringSubmatch(text); found != nil {
		l.size = numberOf(found[1])
		if l.size < 0 || l.size > 4096 {
			l.wrong = api.ErrRange
			return true
		}
		l.bytes = strings.Repeat("\x00", l.size)
		return true
	}
	found := directivePattern.FindStringSubmatch(text)
	if found == nil {
		return false
	}
	size := map[string]int{"byte": 1, "half": 2, "word": 4}[found[1]]
	least := map[string]int{"byte": -128, "half": -32768, "word": -2147483648}[found[1]]
	most := map[string]int{"byte": 255, "half": 65535, "word": 4294967295}[found[1]]
	for _, part := range strings.Split(found[2], ",") {
		n := numberOf(strings.Trim(part, " \t"))
		if n < least || n > most {
			l.wrong = api.ErrRange
		}
		l.bytes += littleEndian(uint64(n), size)
		l.size += size
	}
	return true
}

// assemble goes by lines twice, as P6 says it.
func (a telling) assemble(text string) (string, int, api.Errno) {
	if len(text) > 4000 {
		return "", 0, api.ErrLong
	}
	var lines []*told
	labels := map[string]int{}
	at := 0
	for k, line := range strings.Split(text, "\n") {
		line, _, _ = strings.Cut(line, "#")
		found := linePattern.FindStringSubmatch(line)
		l := &told{label: found[1], at: at}
		lines = append(lines, l)
		if found[2] != "" && !readDirective(found[2], l) && !a.readInstruction(found[2], l) {
			return "", k + 1, api.ErrSyntax
		}
		if _, twice := labels[l.label]; twice {
			return "", k + 1, api.ErrLabel
		}
		if l.wrong != api.OK {
			return "", k + 1, l.wrong
		}
		if l.label != "" {
			labels[l.label] = at
		}
		at += l.size
		if at > 4096 {
			return "", k + 1, api.ErrLong
		}
	}
	var out strings.Builder
	for k, l := range lines {
		if l.target != "" {
			to, there := labels[l.target]
			if !there {
				return "", k + 1, api.ErrLabel
			}
			l.inst.Imm = to - l.at
			if e := a.finish(l); e != api.OK {
				return "", k + 1, e
			}
		}
		out.WriteString(l.bytes)
	}
	return out.String(), 0, api.OK
}

package hart_test

import (
	"encoding/hex"
	"fmt"
	"math/rand"
	"strconv"
	"strings"
	"testing"

	"hart/api"
	"hart/hart"
)

func wantImage(t *testing.T, text, want string) {
	t.Helper()
	if b, line, e := hart.Assemble(text); hex.EncodeToString([]byte(b)) != want || line != 0 || e != api.OK {
		t.Errorf("P6: Assemble(%.80q) = %x, %d, %d, want %s", text, b, line, e, want)
	}
}

func wantRefused(t *testing.T, text string, line int, want api.Errno) {
	t.Helper()
	if b, n, e := hart.Assemble(text); b != "" || n != line || e != want {
		t.Errorf("P1, P6: Assemble(%.80q) = %x, %d, %d, want line %d, %d", text, b, n, e, line, want)
	}
}

func TestExampleFour(t *testing.T) {
	wantImage(t, "a: addi x1, x1, 1\nbne x1, x2, a", "93801000e39e20fe")
	wantImage(t, "c.addi x1, x1, 1", "8500")
}

func TestLinesOfNothing(t *testing.T) {
	for _, text := range []string{"", "\n", "\n\n\n", " \t \n\t", "#", "# fence", "\t# a: b: , (\xff\r\x00\n#", "a:", " a:\t\nb: # c:\n_:", "a:#"} {
		wantImage(t, text, "")
	}
}

// loose writes a statement with other blanks, as one likes them.
func loose(text string) string {
	return "\t " + strings.NewReplacer(" ", "\t ", ",", " \t,", "(", "\t ( ", ")", "  )").Replace(text) + " \t"
}

// tight leaves out each blank but the one behind the word.
func tight(text string) string {
	word, operands, _ := strings.Cut(text, " ")
	return word + " " + strings.ReplaceAll(operands, " ", "")
}

// hexadecimal writes a number with both cases of digits, and as many noughts ahead as there may be.
func hexadecimal(n int) string {
	sign := ""
	if n < 0 {
		sign, n = "-", -n
	}
	digits := fmt.Sprintf("%010X", n)
	return sign + "0x" + strings.ToLower(digits[:7]) + digits[7:]
}

func TestAssembleEveryOp(t *testing.T) {
	for _, e := range entries() {
		for _, i := range samples(e) {
			want := hex.EncodeToString([]byte(littleEndian(uint64(bitsOf(e, i)), 4)))
			text := textOf(e, i, strconv.Itoa(i.Imm))
			wantImage(t, text, want)
			wantImage(t, loose(text), want)
			wantImage(t, tight(text), want)
			wantImage(t, "here:"+textOf(e, i, hexadecimal(i.Imm))+"#"+text, want)
			wantImage(t, text+"\n"+text+"\n", want+want)
		}
	}
}

func TestAssembleEveryShortInstruction(t *testing.T) {
	all := entries()
	for i, p := range leastParcels() {
		text := "c." + textOf(all[i.Op-1], i, strconv.Itoa(i.Imm))
		wantImage(t, text, hex.EncodeToString([]byte(littleEndian(uint64(p), 2))))
	}
}

func TestNoShortStatement(t *testing.T) {
	for _, text := range []string{
		"c.fence", "c.ecall", "c.auipc x1, 1", "c.mul x8, x8, x9", "c.lb x8, 0(x8)", "c.sh x8, 0(x8)", "c.blt x8, x0, 4", "c.addi x1, x2, 1",
		"c.addi x1, x1, 32", "c.addi x1, x1, -33", "c.lw x8, 128(x8)", "c.lw x0, 0(x2)", "c.sw x8, -4(x2)", "c.jal x2, 4", "c.jal x1, 2048", "c.jal x0, -2050",
		"c.beq x8, x1, 4", "c.beq x7, x0, 4", "c.bne x8, x0, 256", "c.bne x8, x0, -258", "c.lui x2, 1", "c.lui x1, 32", "c.slli x1, x2, 1", "c.add x1, x2, x1",
	} {
		wantRefused(t, text, 1, api.ErrNone)
	}
	wantImage(t, "c.ebreak\nebreak\nc.jalr x0, x1, 0", "0290"+"73001000"+"8280")
}

// TestImmAtItsEdges asks of each Op the numbers at both ends of its range, and one beyond.
func TestImmAtItsEdges(t *testing.T) {
	for _, e := range entries() {
		if !uses(e.format, "i") {
			continue
		}
		least, most, step := immBounds(e.format)
		for _, imm := range []int{least, most} {
			i := api.Inst{Op: e.op, Imm: imm}
			wantImage(t, textOf(e, i, strconv.Itoa(imm)), hex.EncodeToString([]byte(littleEndian(uint64(bitsOf(e, i)), 4))))
		}
		wrong := []int{least - step, least - 1, most + 1, most + step, 9999999999, -9999999999, 0xffffffffff, 1 << 32, -1 << 32}
		if step == 2 {
			wrong = append(wrong, -1, 1, 3, least+1, most-1)
		}
		for _, imm := range wrong {
			if imm > 9999999999 {
				wantRefused(t, textOf(e, api.Inst{Op: e.op}, hexadecimal(imm)), 1, api.ErrRange)
				continue
			}
			wantRefused(t, textOf(e, api.Inst{Op: e.op}, strconv.Itoa(imm)), 1, api.ErrRange)
			wantRefused(t, "c."+textOf(e, api.Inst{Op: e.op}, hexadecimal(imm)), 1, api.ErrRange)
		}
	}
}

func TestDirectives(t *testing.T) {
	wantImage(t, ".byte 0, 1,255 ,-1\t,\t-128, 0x7f, -0x80", "0001ffff807f80")
	wantImage(t, ".half 1, 65535, -1, -32768, 0xBEef", "0100ffffffff0080efbe")
	wantImage(t, ".word 1, 4294967295, -1, -2147483648, 0xdeadBEEF", "01000000ffffffffffffffff00000080efbeadde")
	wantImage(t, ".byte 1\n.half 2\n.word 3\n.space 2\n.byte 4", "01"+"0200"+"03000000"+"0000"+"04")
	wantImage(t, "a: .space 0\n.space -0\n.space 0x3 # three", "000000")
	wantImage(t, "\t.word\t-0", "00000000")
	for _, c := range []struct {
		word        string
		least, most int
	}{{".byte", -128, 255}, {".half", -32768, 65535}, {".word", -2147483648, 4294967295}, {".space", 0, 4096}} {
		for _, n := range []int{c.least - 1, c.most + 1, -9999999999, 9999999999, 1 << 32, -1 << 32} {
			wantRefused(t, c.word+" "+strconv.Itoa(n), 1, api.ErrRange)
		}
		wantRefused(t, c.word+" 0xffffffffff", 1, api.ErrRange)
		if c.word != ".space" {
			wantRefused(t, c.word+" 0, 1, "+strconv.Itoa(c.most+1)+", 2", 1, api.ErrRange)
		}
		for _, operands := range []string{"", " ", " ,", " 1,", " ,1", " 1,,2", " 1 2", " a", " x1", " 1(x2)", " +1", " 1.", "1", ", 1", " - 1", " --1", " 1-"} {
			wantRefused(t, c.word+operands, 1, api.ErrSyntax)
		}
		wantRefused(t, "c"+c.word+" 1", 1, api.ErrSyntax)
		wantRefused(t, "c."+c.word+" 1", 1, api.ErrSyntax)
		wantRefused(t, strings.ToUpper(c.word)+" 1", 1, api.ErrSyntax)
	}
	wantRefused(t, ".space 1, 2", 1, api.ErrSyntax)
}

func TestNumbers(t *testing.T) {
	for text, want := range map[string]string{"0": "00", "-0": "00", "007": "07", "0000000255": "ff", "-0000000128": "80", "0x0": "00", "0x00000000fF": "ff", "-0x0000000080": "80", "-0x0": "00", "0xA": "0a", "08": "08"} {
		wantImage(t, ".byte "+text, want)
		wantImage(t, ".byte "+text+", "+text, want+want)
	}
	for _, text := range []string{"", "-", "0x", "-0x", "0X1", "0xg", "0x1g", "0x-1", "x1", "1x", "1_0", "0x_1", "+1", "--1", "- 1", "1 0", "0b1", "0o7", "1e1", "1.0", "a", "00000000000", "00000000001", "0x00000000001", "-00000000001", "99999999999999999999999", "0xfffffffffffffffffffff", "\u0661", "1\x00", "1\r", "'1'"} {
		wantRefused(t, ".word "+text, 1, api.ErrSyntax)
		wantRefused(t, ".space "+text, 1, api.ErrSyntax)
		wantRefused(t, "addi x1, x1, "+text, 1, api.ErrSyntax)
		wantRefused(t, "slli x1, x1, "+text, 1, api.ErrSyntax)
		wantRefused(t, "lui x1, "+text, 1, api.ErrSyntax)
		wantRefused(t, "lw x1, "+text+"(x1)", 1, api.ErrSyntax)
	}
}

func TestRegisters(t *testing.T) {
	for n := range 32 {
		i := in(api.Add, n, 31-n, n/2, 0)
		wantImage(t, fmt.Sprintf("add x%d,x%d,x%d", n, 31-n, n/2), hex.EncodeToString([]byte(littleEndian(uint64(bitsOf(entries()[api.Add-1], i)), 4))))
	}
	for _, text := range []string{"", "x", "X1", "x32", "x99", "x00", "x01", "x031", "x-1", "x+1", "x-0", "x 1", "x1x", "1", "a1", "ra", "zero", "x0x1", "x1.", "x0000000000000000000001", "x4294967296", "x18446744073709551617", "(x1)", "x\u0661"} {
		wantRefused(t, "add "+text+", x1, x1", 1, api.ErrSyntax)
		wantRefused(t, "add x1, "+text+", x1", 1, api.ErrSyntax)
		wantRefused(t, "c.add x1, x1, "+text, 1, api.ErrSyntax)
		wantRefused(t, "sw "+text+", 0(x1)", 1, api.ErrSyntax)
		wantRefused(t, "sw x1, 0("+text+")", 1, api.ErrSyntax)
		wantRefused(t, "jal "+text+", 0", 1, api.ErrSyntax)
	}
}

// TestWrongStatements has words that are none, and operands that are too few, too many or of another kind.
func TestWrongStatements(t *testing.T) {
	for _, text := range []string{
		"nop", "li x1, 1", "ADD x1, x1, x1", "Add x1, x1, x1", "addx1, x1, x1", "add_ x1, x1, x1", "c.", "c", ".", "c.c.addi x1, x1, 1", "c. addi x1, x1, 1", "C.addi x1, x1, 1", "c .addi x1, x1, 1", "c.nop", ".text", ".bytes 1", ".byte1", "1", "x1", "-1", "(", ",", "_", "a",
		"add", "add x1", "add x1, x2", "add x1, x2, x3, x4", "add x1 x2 x3", "add x1, x2 x3", "add x1,, x3", "add , x2, x3", "add x1, x2,", "add, x1, x2, x3", "add x1, x2, x3,", "add x1, x2, 3", "add x1; x2; x3",
		"addi x1, x2", "addi x1, x2, x3", "addi x1, 2(x3)", "addi 1, x2, 3", "slli x1, x1", "slli x1, x1, x1", "addi x1, x1, a", "a: addi x1, x1, a", "lui x1", "lui x1, x2", "lui x1, 1, 2", "auipc x1, here\nhere:",
		"jalr x1, 0(x2)", "jalr x1", "jalr x1, x2", "lw x1, x2, 4", "lw x1, 4, x2", "lw x1, 4", "lw x1, (x2)", "lw x1, 4(x2", "lw x1, 4 x2)", "lw x1, 4(x2)x", "lw x1, 4(x2))", "lw x1, 4((x2))", "lw x1, 4()", "lw x1, 4(x2)(x3)", "lw x1, 4[x2]", "lw x1, -(x2)", "lw x1, a(x2)", "lw x1, 4(2)", "lw x1, x2(4)", "lw x1, 4)x2(", "lw x1, 4(x2),", "lw x1", "lw 4(x2), x1", "lw x1 4(x2)", "sw x1, x2, 4", "sw 4(x2), x1",
		"beq x1, x2", "beq x1, x2, 9a", "beq x1, x2, a b", "beq x1, x2, -a", "beq x1, x2, a:", "beq x1, x2, 4(x2)", "beq x1, 4, x2, x2", "beq x1, x2, \"a\"", "beq x1, x2, a+4", "beq x1, x2, .", "beq x1, x2, " + strings.Repeat("a", 21), "jal a", "jal x1", "jal x1, a, b", "jal 4", "jal x1, x1, 4",
		"fence x1", "fence ,", "fence 0", "ecall 1", "ebreak x0", "c.ebreak 0", "fence,", "fence fence", "fence;", "fence\r", "fence\x00", "fence\v", "\ffence", "fence\u00a0", "\u00a0fence", "fen ce",
		":", ": fence", "a :", "a : fence", "a b: fence", "9: fence", "1a: fence", "-a: fence", "a-b: fence", "a.b: fence", "a: b: fence", "a:: fence", "a: :", "a:b:", ".a: fence", "\u00e4: fence", "a\u00e4: fence", "a\xff: fence", "fence a:", "fence :", strings.Repeat("a", 21) + ":", "_" + strings.Repeat("9", 20) + ": fence",
	} {
		wantRefused(t, text, 1, api.ErrSyntax)
		wantRefused(t, "fence\n\n"+text+"\nfence", 3, api.ErrSyntax)
	}
}

func TestBytesThatAreNoSource(t *testing.T) {
	a := newTelling()
	for c := range 256 {
		b := string([]byte{byte(c)})
		for _, text := range []string{b, b + b, b + "fence", "fence" + b, "fen" + b + "ce", "a" + b + "fence", "a:" + b + "fence", "a" + b + ":fence", "lw" + b + "x1,1(x1)", "lw x1" + b + ",1(x1)", "lw x1,1" + b + "(x1)", "lw x1,1(" + b + "x1)", "lw x1,1(x1" + b + ")", "lw x1,1(x1)" + b, ".byte 1" + b + "2", ".byte " + b + "1", ".byte 0x" + b, "jal x1, " + b, b + ":jal x1, " + b, "a" + b + ":jal x1, a" + b, "#" + b, "#" + b + "nop"} {
			wantSame(t, a, text)
		}
	}
}

// wantSame holds Assemble against the document's words.
func wantSame(t *testing.T, a telling, text string) {
	t.Helper()
	want, wantLine, wantErr := a.assemble(text)
	if b, line, e := hart.Assemble(text); b != want || line != wantLine || e != wantErr {
		t.Errorf("P6: Assemble(%q) = %x, %d, %d, want %x, %d, %d", text, b, line, e, want, wantLine, wantErr)
	}
}

func TestLabels(t *testing.T) {
	wantImage(t, "beq x1, x2, end\n.space 2\nend: fence", "63832000"+"0000"+"0f000000")
	wantImage(t, "jal x0, a\na:", "6f004000")
	wantImage(t, "a: jal x0, a", "6f000000")
	wantImage(t, "jal x0, c\na:\nb: # none\n\nc:fence\njal x0, a\nd: jal x0, b\njal x0, d", "6f004000"+"0f000000"+"6ff0dfff"+"6ff09fff"+"6ff0dfff")
	wantImage(t, "x: c.jal x1, x\nc.jal x0, x", "0120"+"fdbf")
	wantImage(t, "c.beq x8, x0, a\na: c.bne x8, x0, a", "09c0"+"01e0")
	wantImage(t, "beq: beq x0, x0, beq\nx1: jal x1, x1\nc: c.jal x1, c\nbyte: jal x0, byte", "63000000"+"ef000000"+"0120"+"6f000000")
	wantImage(t, "A:\na: fence\njal x0, A\njal x0, a", "0f000000"+"6ff0dfff"+"6ff09fff")
	long := "_" + strings.Repeat("aZ9_", 5)[:19]
	wantImage(t, long+": jal x0, "+long, "6f000000")
	wantRefused(t, long+"x: fence", 1, api.ErrSyntax)
	wantRefused(t, "jal x0, "+long+"x", 1, api.ErrSyntax)

	wantRefused(t, "a:\na:", 2, api.ErrLabel)
	wantRefused(t, "a: fence\nb: fence\n\nb:\na: fence", 4, api.ErrLabel)
	wantRefused(t, "jal x0, a\na:\na: fence", 3, api.ErrLabel)
	wantRefused(t, "jal x0, nowhere", 1, api.ErrLabel)
	wantRefused(t, "a: fence\nbeq x1, x2, A", 2, api.ErrLabel)
	wantRefused(t, "fence\nc.jal x0, x1\nx2:", 2, api.ErrLabel)
	wantRefused(t, "fence # a:\nbeq x1, x2, a", 2, api.ErrLabel)
}

// TestTargets: a distance as a number is the one to a label at that distance.
func TestTargets(t *testing.T) {
	for _, distance := range []int{0, 2, 4, 100, 254, 256, 2046, 2048, 4090} {
		for _, statement := range []string{"beq x8, x0, ", "bne x1, x31, ", "jal x1, ", "c.bne x15, x0, ", "c.jal x0, "} {
			wantTarget(t, statement, distance)
			if distance > 0 {
				wantTarget(t, statement, -distance)
			}
		}
	}
	wantRefused(t, "beq x1, x2, a\n.space 4092\na:", 1, api.ErrRange)
	wantRefused(t, "beq x1, x2, a\n.byte 1\na:", 1, api.ErrRange)
	wantRefused(t, "a: .byte 1\njal x1, a", 2, api.ErrRange)
	wantRefused(t, ".byte 1\nc.beq x8, x0, a\n.byte 1\na:", 2, api.ErrRange)
	wantImage(t, ".byte 1\na: beq x0, x0, a", "01"+"63000000")
	wantRefused(t, "c.jal x2, a\na:", 1, api.ErrNone)
	wantRefused(t, "a: .space 2050\nc.jal x0, a", 2, api.ErrNone)
	wantRefused(t, "c.beq x8, x0, a\n.space 254\na:", 1, api.ErrNone)
	wantRefused(t, "c.blt x8, x0, a\na:", 1, api.ErrNone)
}

// wantTarget holds a statement with a label at a distance against the same with the number.
func wantTarget(t *testing.T, statement string, distance int) {
	t.Helper()
	byNumber, _, wantErr := hart.Assemble(statement + strconv.Itoa(distance))
	length := 4
	if strings.HasPrefix(statement, "c.") {
		length = 2
	}
	text, line, at := "", 0, 0
	switch {
	case distance < 0:
		text, line, at = fmt.Sprintf("a: .space %d\n%sa", -distance, statement), 2, -distance
	case distance == 0:
		text, line = "a: "+statement+"a", 1
	case distance >= length:
		text, line = fmt.Sprintf("%sa\n.space %d\na:", statement, distance-length), 1
	default:
		return
	}
	b, n, e := hart.Assemble(text)
	switch {
	case e != wantErr || e != api.OK && (n != line || b != ""):
		t.Errorf("P6: Assemble(%q) = %x, %d, %d, want %d in line %d, as of the number", text, b, n, e, wantErr, line)
	case e == api.OK && (n != 0 || b[at:at+length] != byNumber || strings.Trim(b[:at]+b[at+length:], "\x00") != ""):
		t.Errorf("P6: Assemble(%q) = %x, %d, want %x at %d", text, b, n, byNumber, at)
	}
}

func TestLongTexts(t *testing.T) {
	fill := func(head string, size int, with string) string {
		return (head + strings.Repeat(with, size))[:size]
	}
	wantImage(t, fill("", 4000, "#"), "")
	wantImage(t, fill("", 4000, "\n"), "")
	wantImage(t, fill("", 4000, " "), "")
	wantImage(t, fill("fence #", 4000, "\xff"), "0f000000")
	wantImage(t, fill("", 3995, "\n")+"fence", "0f000000")
	wantRefused(t, fill("", 3997, "\n")+"nop", 3998, api.ErrSyntax)
	wantRefused(t, fill("", 4000, "x"), 1, api.ErrSyntax)
	for _, with := range []string{"#", "\n", " ", "x", "\x00", "a:\n", ".space 4096\n"} {
		wantRefused(t, fill("", 4001, with), 0, api.ErrLong)
		wantRefused(t, fill("nop\n", 4001, with), 0, api.ErrLong)
		wantRefused(t, fill("fence # ", 100000, with), 0, api.ErrLong)
	}
}

func TestLongImages(t *testing.T) {
	for statement, size := range map[string]int{".byte 1": 1, ".byte 1, 2, 3": 3, ".half 1": 2, ".word 1": 4, ".space 5": 5, "fence": 4, "c.ebreak": 2, "jal x0, a": 4, "c.jal x0, a": 2} {
		fits := fmt.Sprintf(".space %d\na: %s", 4096-size, statement)
		if b, line, e := hart.Assemble(fits); len(b) != 4096 || line != 0 || e != api.OK {
			t.Errorf("P6: Assemble(%q) = %d bytes, %d, %d", fits, len(b), line, e)
		}
		wantRefused(t, fmt.Sprintf(".space %d\na: %s", 4097-size, statement), 2, api.ErrLong)
		wantRefused(t, fmt.Sprintf(".space 4096\na:\n%s\nnop", statement), 3, api.ErrLong)
	}
	for _, behind := range []string{"", "\n", "\na:", "\n.space 0", "\n# fence"} {
		if b, line, e := hart.Assemble(".space 4096" + behind); b != strings.Repeat("\x00", 4096) || line != 0 || e != api.OK {
			t.Errorf("P6: Assemble(.space 4096%q) = %d bytes, %d, %d", behind, len(b), line, e)
		}
	}
	wantImage(t, ".space 4088\njal x0, a\na: jal x0, a", strings.Repeat("00", 4088)+"6f004000"+"6f000000")
	wantRefused(t, strings.Repeat(".space 1000\n", 6), 5, api.ErrLong)
	wantRefused(t, ".space 4095\n.space 4096", 2, api.ErrLong)
}

// TestTwoErrorsInOneLine has of each two kinds that can stand in one line which is told.
func TestTwoErrorsInOneLine(t *testing.T) {
	full := "a: .space 4096\n"
	for text, want := range map[string]api.Errno{
		"a: nop":                    api.ErrSyntax,
		"a: add x1, x1":             api.ErrSyntax,
		"addi x32, x1, 2048":        api.ErrSyntax,
		"addi x1, x1, 2048, 1":      api.ErrSyntax,
		"lw x1, 99999(x99)":         api.ErrSyntax,
		".byte 256, x":              api.ErrSyntax,
		".space 4097, 1":            api.ErrSyntax,
		"c.mul x8, x8, 8":           api.ErrSyntax,
		"jal x99, nowhere":          api.ErrSyntax,
		"a: addi x1, x1, 2048":      api.ErrLabel,
		"a: .byte 256":              api.ErrLabel,
		"a: c.mul x8, x8, x8":       api.ErrLabel,
		"a: fence":                  api.ErrLabel,
		"a: jal x0, nowhere":        api.ErrLabel,
		"c.addi x1, x2, 2048":       api.ErrRange,
		"c.blt x8, x0, 3":           api.ErrRange,
		"addi x1, x1, 2048":         api.ErrRange,
		".byte 1, 256":              api.ErrRange,
		".space 4097":               api.ErrRange,
		"beq x1, x2, 5000":          api.ErrRange,
		"c.mul x8, x8, x8":          api.ErrNone,
		"c.beq x8, x0, 256":         api.ErrNone,
		"jal x0, nowhere":           api.ErrLong,
		"c.blt x8, x9, nowhere":     api.ErrLong,
		"c.blt x8, x9, a":           api.ErrLong,
		".byte 1, 2, 3 # no label:": api.ErrLong,
	} {
		wantRefused(t, full+text, 2, want)
		wantRefused(t, "\n"+full+"b:\n"+text+"\nnop", 4, want)
	}
	wantRefused(t, "a: .byte 1\nc.blt x8, x9, nowhere", 2, api.ErrLabel)
	wantRefused(t, "a: .byte 1\nc.blt x8, x9, a", 2, api.ErrRange)
	wantRefused(t, "a: .byte 1, 2\nc.blt x8, x9, a", 2, api.ErrNone)
}

// TestTwoErrorsInTwoLines: what needs no labels comes first, wherever it stands; else the line that stands ahead.
func TestTwoErrorsInTwoLines(t *testing.T) {
	early := map[string]api.Errno{"nop": api.ErrSyntax, "a:": api.ErrLabel, "addi x1, x1, 2048": api.ErrRange, "c.fence": api.ErrNone, ".space 4096": api.ErrLong}
	late := map[string]api.Errno{"jal x0, nowhere": api.ErrLabel, "jal x0, odd": api.ErrRange, "c.jal x2, even": api.ErrNone, "c.jal x2, nowhere": api.ErrLabel, "c.jal x2, odd": api.ErrRange}
	head := "a: .byte 1\nodd: .byte 1\neven:\n"
	for first, firstErr := range early {
		for second := range early {
			wantRefused(t, head+first+"\n"+second, 4, firstErr)
		}
		for other := range late {
			wantRefused(t, head+first+"\n"+other, 4, firstErr)
			wantRefused(t, head+other+"\n"+first, 5, firstErr)
			wantRefused(t, head+other+"\n"+other+"\n# more\n"+first, 7, firstErr)
		}
	}
	for first, firstErr := range late {
		for second := range late {
			wantRefused(t, head+first+"\n"+second, 4, firstErr)
		}
	}
}

// pick takes one of some texts.
func pick(r *rand.Rand, texts ...string) string {
	return texts[r.Intn(len(texts))]
}

// someOperand writes an operand of a template, and now and then another one.
func someOperand(r *rand.Rand, kind rune) string {
	if r.Intn(60) == 0 {
		kind = rune("dng,( "[r.Intn(6)])
	}
	switch kind {
	case 'd', 's', 't':
		return "x" + pick(r, "0", "1", "2", "8", "8", "9", "9", "15", "31", "32", "08")
	case 'n':
		return pick(r, "0", "1", "-1", "4", "8", "16", "31", "-32", "32", "0x7fF", "-2048", "2048", "255", "256", "0xffffffffff", "1048575", "00000000001")
	case 'g':
		return pick(r, "a", "b", "c", "a", "b", "c", "d", "0", "2", "-4", "3", "256", "-0x100", "4094", "4096")
	case ',', '(', ')':
		return pick(r, "", " ", "\t") + string(kind) + pick(r, "", " ", "\t ")
	}
	return ""
}

// someLine writes a line that is mostly right.
func someLine(r *rand.Rand, all []entry) string {
	out := pick(r, "", "", " ") + pick(r, "", "", "", "", "a:", "b: ", "c:\t", "d :")
	switch r.Intn(12) {
	case 0:
		return out + pick(r, "# a: fence", "", "\t")
	case 1:
		return out + pick(r, ".space 0", ".space 1", ".space 2", ".space 250", ".space 2000", ".space 4000", ".space 4096", ".space 4097", ".space")
	case 2:
		out += pick(r, ".byte ", ".half\t", ".word ") + someOperand(r, 'n')
		for range r.Intn(3) {
			out += someOperand(r, ',') + someOperand(r, 'n')
		}
		return out
	}
	e := all[r.Intn(len(all))]
	if r.Intn(2) == 0 {
		e = all[pickOp(r)-1]
	}
	out += pick(r, "", "", "c.") + nameByNumber(e.op) + pick(r, " ", " ", "\t", "  ")
	for _, c := range template(e) {
		out += someOperand(r, c)
	}
	return out + pick(r, "", "", " ", "# b:")
}

// pickOp takes an Op that has short ones or targets.
func pickOp(r *rand.Rand) int {
	ops := []int{api.Addi, api.Lw, api.Sw, api.Jal, api.Beq, api.Bne, api.Add, api.And, api.Slli, api.Ebreak, api.Blt}
	return ops[r.Intn(len(ops))]
}

// TestSourcesAtRandom holds Assemble against the document's words at lines that are mostly right, and at the same with some bytes changed.
func TestSourcesAtRandom(t *testing.T) {
	a := newTelling()
	r := rand.New(rand.NewSource(7))
	count := map[api.Errno]int{}
	for range 12000 {
		var lines []string
		for range 1 + r.Intn(5) {
			lines = append(lines, someLine(r, a.all))
		}
		text := strings.Join(lines, "\n")
		if r.Intn(4) == 0 {
			at := r.Intn(len(text) + 1)
			text = text[:at] + pick(r, "", " ", "\n", ",", ":", "(", "#", "x", "0", "-", "c.", "_", "\r") + text[min(len(text), at+r.Intn(2)):]
		}
		wantSame(t, a, text)
		_, _, e := a.assemble(text)
		count[e]++
	}
	for _, e := range []api.Errno{api.OK, api.ErrNone, api.ErrLong, api.ErrSyntax, api.ErrLabel, api.ErrRange} {
		if count[e] < 50 {
			t.Errorf("only %d sources answer %d", count[e], e)
		}
	}
}

// TestTextAnswersHangOnArguments asks the same from several sides at once, behind other questions.
func TestTextAnswersHangOnArguments(t *testing.T) {
	for _, name := range []string{"first", "second", "third"} {
		t.Run(name, func(t *testing.T) {
			t.Parallel()
			for k := range 300 {
				hart.Assemble("a: b: c: nop")
				wantRefused(t, "jal x0, a", 1, api.ErrLabel)
				wantImage(t, "a: addi x1, x1, 1\nbne x1, x2, a", "93801000e39e20fe")
				wantImage(t, "bne x1, x2, a\na:", "63922000")
				wantPrint(t, in(api.Addi, k%32, 2, 0, -k), "addi x"+strconv.Itoa(k%32)+", x2, "+strconv.Itoa(-k), api.OK)
			}
		})
	}
}

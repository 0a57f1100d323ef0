package hart_test

import (
	"math"
	"strconv"
	"testing"

	"hart/api"
	"hart/hart"
)

func wantPrint(t *testing.T, i api.Inst, want string, wantErr api.Errno) {
	t.Helper()
	if s, e := hart.Print(i); s != want || e != wantErr {
		t.Errorf("P1, P5: Print(%+v) = %q, %d, want %q, %d", i, s, e, want, wantErr)
	}
}

func TestExampleThree(t *testing.T) {
	wantPrint(t, in(api.Addi, 1, 2, 0, -1), "addi x1, x2, -1", api.OK)
	wantPrint(t, in(api.Lw, 8, 2, 0, 12), "lw x8, 12(x2)", api.OK)
	wantPrint(t, in(api.Sw, 0, 2, 8, 12), "sw x8, 12(x2)", api.OK)
	wantPrint(t, in(api.Beq, 0, 1, 2, -4), "beq x1, x2, -4", api.OK)
	wantPrint(t, in(api.Lui, 5, 0, 0, 1048575), "lui x5, 1048575", api.OK)
	wantPrint(t, in(api.Fence, 0, 0, 0, 0), "fence", api.OK)
}

// TestPrintEveryFormat tells the words by hand, so that an error in the templates does not hide.
func TestPrintEveryFormat(t *testing.T) {
	for want, i := range map[string]api.Inst{
		"auipc x31, 0":        in(api.Auipc, 31, 0, 0, 0),
		"jal x1, -1048576":    in(api.Jal, 1, 0, 0, -1048576),
		"jal x0, 1048574":     in(api.Jal, 0, 0, 0, 1048574),
		"jalr x1, x2, -2048":  in(api.Jalr, 1, 2, 0, -2048),
		"bgeu x31, x30, 4094": in(api.Bgeu, 0, 31, 30, 4094),
		"lb x1, -1(x2)":       in(api.Lb, 1, 2, 0, -1),
		"lhu x10, 2047(x0)":   in(api.Lhu, 10, 0, 0, 2047),
		"sb x3, -2048(x4)":    in(api.Sb, 0, 4, 3, -2048),
		"sltiu x5, x6, 7":     in(api.Sltiu, 5, 6, 0, 7),
		"srai x7, x8, 31":     in(api.Srai, 7, 8, 0, 31),
		"sra x9, x10, x11":    in(api.Sra, 9, 10, 11, 0),
		"remu x12, x13, x14":  in(api.Remu, 12, 13, 14, 0),
		"ecall":               in(api.Ecall, 0, 0, 0, 0),
		"ebreak":              in(api.Ebreak, 0, 0, 0, 0),
	} {
		wantPrint(t, i, want, api.OK)
	}
}

// TestPrintEveryOp holds Print against the templates, and Assemble of it against the pictures' bits.
func TestPrintEveryOp(t *testing.T) {
	for _, e := range entries() {
		for _, i := range samples(e) {
			text := textOf(e, i, strconv.Itoa(i.Imm))
			wantPrint(t, i, text, api.OK)
			want := littleEndian(uint64(bitsOf(e, i)), 4)
			printed, _ := hart.Print(i)
			if b, line, err := hart.Assemble(printed); b != want || line != 0 || err != api.OK {
				t.Errorf("P8: Assemble(%q) = %x, %d, %d, want %x", printed, b, line, err, want)
			}
		}
	}
}

func TestPrintEveryRegister(t *testing.T) {
	for n := range 32 {
		wantPrint(t, in(api.Add, n, 31-n, n/2, 0), "add x"+strconv.Itoa(n)+", x"+strconv.Itoa(31-n)+", x"+strconv.Itoa(n/2), api.OK)
	}
}

func TestPrintOfWhatIsNotLegal(t *testing.T) {
	for _, op := range []int{math.MinInt, -1, 0, 49, 256 + 19, math.MaxInt} {
		wantPrint(t, in(op, 0, 0, 0, 0), "", api.ErrField)
		wantPrint(t, in(op, 1, 2, 3, 4), "", api.ErrField)
	}
	for _, e := range entries() {
		for _, wrong := range []int{math.MinInt, -1, 32, math.MaxInt} {
			wantPrint(t, in(e.op, wrong, 0, 0, 0), "", api.ErrField)
			wantPrint(t, in(e.op, 0, wrong, 0, 0), "", api.ErrField)
			wantPrint(t, in(e.op, 0, 0, wrong, 0), "", api.ErrField)
		}
		least, most, step := immBounds(e.format)
		for _, imm := range []int{math.MinInt, least - step, most + step, math.MaxInt} {
			wantPrint(t, in(e.op, 0, 0, 0, imm), "", api.ErrField)
		}
		if step == 2 {
			wantPrint(t, in(e.op, 0, 0, 0, 3), "", api.ErrField)
		}
		for field, i := range map[string]api.Inst{"d": in(e.op, 1, 0, 0, 0), "s": in(e.op, 0, 1, 0, 0), "t": in(e.op, 0, 0, 1, 0), "i": in(e.op, 0, 0, 0, 1)} {
			if !uses(e.format, field) {
				wantPrint(t, i, "", api.ErrField)
			}
		}
	}
}

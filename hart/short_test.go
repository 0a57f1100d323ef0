package hart_test

import (
	"math"
	"strconv"
	"testing"

	"hart/api"
	"hart/hart"
)

func wantExpand(t *testing.T, p uint16, want api.Inst, wantErr api.Errno) {
	t.Helper()
	if i, e := hart.Expand(p); i != want || e != wantErr {
		t.Errorf("P1, P4: Expand(%04x) = %+v, %d, want %+v, %d", p, i, e, want, wantErr)
	}
}

func wantCompress(t *testing.T, i api.Inst, want uint16, wantErr api.Errno) {
	t.Helper()
	if p, e := hart.Compress(i); p != want || e != wantErr {
		t.Errorf("P1, P4: Compress(%+v) = %04x, %d, want %04x, %d", i, p, e, want, wantErr)
	}
}

func TestExampleTwo(t *testing.T) {
	wantExpand(t, 0x0001, in(api.Addi, 0, 0, 0, 0), api.OK)
	wantExpand(t, 0x4501, in(api.Addi, 10, 0, 0, 0), api.OK)
	wantExpand(t, 0x8082, in(api.Jalr, 0, 1, 0, 0), api.OK)
	wantExpand(t, 0x9002, in(api.Ebreak, 0, 0, 0, 0), api.OK)
	wantExpand(t, 0x0000, api.Inst{}, api.ErrIllegal)
	wantExpand(t, 0x0003, api.Inst{}, api.ErrWide)
	wantCompress(t, in(api.Add, 3, 0, 4, 0), 0x8192, api.OK)
}

// TestEveryParcel holds Expand against the document's pictures, at all 65,536.
func TestEveryParcel(t *testing.T) {
	all := shorts()
	for n := range 1 << 16 {
		p := uint16(n)
		want, rows := shortOf(all, p)
		switch {
		case rows > 1:
			t.Fatalf("%d rows of the table have %04x", rows, p)
		case p&3 == 3:
			wantExpand(t, p, api.Inst{}, api.ErrWide)
		case rows == 0:
			wantExpand(t, p, api.Inst{}, api.ErrIllegal)
		default:
			wantExpand(t, p, want, api.OK)
		}
	}
}

// TestEveryShortInstruction holds Compress against the least parcel by the pictures, and both ways against each other.
func TestEveryShortInstruction(t *testing.T) {
	for i, least := range leastParcels() {
		wantCompress(t, i, least, api.OK)
	}
	for n := range 1 << 16 {
		i, e := hart.Expand(uint16(n))
		if e != api.OK {
			continue
		}
		if !hart.Legal(i) {
			t.Fatalf("P8: Expand(%04x) = %+v, which is not legal", n, i)
		}
		p, e := hart.Compress(i)
		if back, err := hart.Expand(p); e != api.OK || err != api.OK || back != i || int(p) > n {
			t.Fatalf("P8: Expand(%04x) = %+v, Compress of that %04x, %d, Expand of that %+v, %d", n, i, p, e, back, err)
		}
	}
}

// nearImms are an Op's Imms about the edges of every row, and the ends of its format.
func nearImms(format string) []int {
	least, most, step := immBounds(format)
	seen := map[int]bool{}
	var out []int
	for _, edge := range []int{least, -2048, -1024, -512, -256, -128, -64, -32, 0, 32, 64, 128, 256, 512, 1024, 2048, 1048544, most} {
		for imm := edge - 17; imm <= edge+17; imm++ {
			if imm >= least && imm <= most && imm%step == 0 && !seen[imm] {
				seen[imm] = true
				out = append(out, imm)
			}
		}
	}
	return out
}

func registersOf(format, field string) []int {
	if !uses(format, field) {
		return []int{0}
	}
	return []int{0, 1, 2, 3, 7, 8, 9, 15, 16, 31}
}

// TestNearShortInstructions asks of every Op what lies about the edges of the rows: it is in the pictures, or has no short one.
func TestNearShortInstructions(t *testing.T) {
	least := leastParcels()
	for _, e := range entries() {
		for _, d := range registersOf(e.format, "d") {
			for _, s := range registersOf(e.format, "s") {
				for _, r := range registersOf(e.format, "t") {
					for _, imm := range nearImms(e.format) {
						i := in(e.op, d, s, r, imm)
						if want, ok := least[i]; ok {
							wantCompress(t, i, want, api.OK)
						} else {
							wantCompress(t, i, 0, api.ErrNone)
						}
					}
				}
			}
		}
	}
}

// TestEdgesOfTheRows tells the edges by hand, so that an error in the pictures does not hide either.
func TestEdgesOfTheRows(t *testing.T) {
	for _, c := range []struct {
		p uint16
		i api.Inst
	}{
		{0x0040, in(api.Addi, 8, 2, 0, 4)}, {0x1ffc, in(api.Addi, 15, 2, 0, 1020)},
		{0x4000, in(api.Lw, 8, 8, 0, 0)}, {0x5ffc, in(api.Lw, 15, 15, 0, 124)},
		{0xc000, in(api.Sw, 0, 8, 8, 0)}, {0xdffc, in(api.Sw, 0, 15, 15, 124)},
		{0x1001, in(api.Addi, 0, 0, 0, -32)}, {0x0ffd, in(api.Addi, 31, 31, 0, 31)}, {0x1f81, in(api.Addi, 31, 31, 0, -32)},
		{0x3001, in(api.Jal, 1, 0, 0, -2048)}, {0x2ffd, in(api.Jal, 1, 0, 0, 2046)},
		{0x5081, in(api.Addi, 1, 0, 0, -32)}, {0x4ffd, in(api.Addi, 31, 0, 0, 31)},
		{0x7101, in(api.Addi, 2, 2, 0, -512)}, {0x617d, in(api.Addi, 2, 2, 0, 496)}, {0x6105, in(api.Addi, 2, 2, 0, 32)}, {0x7179, in(api.Addi, 2, 2, 0, -48)},
		{0x6005, in(api.Lui, 0, 0, 0, 1)}, {0x6ffd, in(api.Lui, 31, 0, 0, 31)}, {0x7f81, in(api.Lui, 31, 0, 0, 1048544)}, {0x70fd, in(api.Lui, 1, 0, 0, 1048575)},
		{0x8001, in(api.Srli, 8, 8, 0, 0)}, {0x83fd, in(api.Srli, 15, 15, 0, 31)}, {0x8401, in(api.Srai, 8, 8, 0, 0)}, {0x87fd, in(api.Srai, 15, 15, 0, 31)},
		{0x9801, in(api.Andi, 8, 8, 0, -32)}, {0x8bfd, in(api.Andi, 15, 15, 0, 31)},
		{0x8c01, in(api.Sub, 8, 8, 8, 0)}, {0x8fbd, in(api.Xor, 15, 15, 15, 0)}, {0x8f41, in(api.Or, 14, 14, 8, 0)}, {0x8c7d, in(api.And, 8, 8, 15, 0)},
		{0xb001, in(api.Jal, 0, 0, 0, -2048)}, {0xaffd, in(api.Jal, 0, 0, 0, 2046)},
		{0xd001, in(api.Beq, 0, 8, 0, -256)}, {0xcffd, in(api.Beq, 0, 15, 0, 254)}, {0xf381, in(api.Bne, 0, 15, 0, -256)}, {0xec7d, in(api.Bne, 0, 8, 0, 254)},
		{0x0002, in(api.Slli, 0, 0, 0, 0)}, {0x0ffe, in(api.Slli, 31, 31, 0, 31)},
		{0x4082, in(api.Lw, 1, 2, 0, 0)}, {0x5ffe, in(api.Lw, 31, 2, 0, 252)},
		{0x8f82, in(api.Jalr, 0, 31, 0, 0)}, {0x9082, in(api.Jalr, 1, 1, 0, 0)}, {0x9f82, in(api.Jalr, 1, 31, 0, 0)},
		{0x8ffe, in(api.Add, 31, 0, 31, 0)}, {0x9ffe, in(api.Add, 31, 31, 31, 0)}, {0x9002, in(api.Ebreak, 0, 0, 0, 0)},
		{0xc002, in(api.Sw, 0, 2, 0, 0)}, {0xdffe, in(api.Sw, 0, 2, 31, 252)},
	} {
		wantExpand(t, c.p, c.i, api.OK)
		wantCompress(t, c.i, c.p, api.OK)
	}
}

// TestLeastOfSeveral: these have two parcels each, and Compress tells the lower one.
func TestLeastOfSeveral(t *testing.T) {
	for _, c := range []struct {
		i           api.Inst
		lower, more uint16
	}{
		{in(api.Addi, 0, 0, 0, 0), 0x0001, 0x4001},
		{in(api.Addi, 0, 0, 0, -1), 0x107d, 0x507d},
		{in(api.Addi, 2, 2, 0, 16), 0x0141, 0x6141},
		{in(api.Addi, 2, 2, 0, -16), 0x1141, 0x717d},
		{in(api.Addi, 2, 2, 0, -32), 0x1101, 0x713d},
		{in(api.Add, 0, 0, 1, 0), 0x8006, 0x9006},
		{in(api.Add, 0, 0, 31, 0), 0x807e, 0x907e},
	} {
		wantExpand(t, c.lower, c.i, api.OK)
		wantExpand(t, c.more, c.i, api.OK)
		wantCompress(t, c.i, c.lower, api.OK)
	}
}

func TestIllegalParcels(t *testing.T) {
	for _, p := range []uint16{
		0x0004, 0x001c, 0x2000, 0x3ffc, 0x6000, 0x8000, 0xa000, 0xe000,
		0x6101, 0x6001, 0x6081, 0x6f81, 0x9001, 0x9401, 0x9c01, 0x9c61,
		0x1002, 0x1ffe, 0x2002, 0x4002, 0x5002, 0x6002, 0x8002, 0xa002, 0xe002,
	} {
		wantExpand(t, p, api.Inst{}, api.ErrIllegal)
	}
	for _, p := range []uint16{0x0003, 0x001f, 0x0013, 0x9007, 0xffff} {
		wantExpand(t, p, api.Inst{}, api.ErrWide)
	}
}

func TestNoShortOne(t *testing.T) {
	for _, i := range []api.Inst{
		in(api.Addi, 8, 2, 0, 0), in(api.Addi, 8, 2, 0, 1024), in(api.Addi, 7, 2, 0, 4), in(api.Addi, 16, 2, 0, 4), in(api.Addi, 8, 2, 0, -4),
		in(api.Addi, 1, 1, 0, 32), in(api.Addi, 1, 1, 0, -33), in(api.Addi, 2, 2, 0, 512), in(api.Addi, 2, 2, 0, 40), in(api.Addi, 2, 2, 0, -528),
		in(api.Lw, 8, 8, 0, 128), in(api.Lw, 8, 8, 0, -4), in(api.Lw, 8, 8, 0, 3), in(api.Lw, 0, 2, 0, 0), in(api.Lw, 1, 2, 0, 256), in(api.Lw, 1, 2, 0, -4),
		in(api.Sw, 0, 2, 0, 256), in(api.Sw, 0, 2, 0, 6), in(api.Sw, 0, 8, 16, 0), in(api.Sw, 0, 16, 8, 0),
		in(api.Jal, 1, 0, 0, 2048), in(api.Jal, 0, 0, 0, -2050), in(api.Jal, 2, 0, 0, 0), in(api.Jal, 31, 0, 0, 4),
		in(api.Lui, 2, 0, 0, 1), in(api.Lui, 1, 0, 0, 0), in(api.Lui, 1, 0, 0, 32), in(api.Lui, 1, 0, 0, 1048543),
		in(api.Slli, 1, 2, 0, 3), in(api.Srli, 1, 1, 0, 3), in(api.Srai, 8, 9, 0, 3), in(api.Andi, 16, 16, 0, 3),
		in(api.Sub, 8, 9, 10, 0), in(api.Sub, 9, 8, 9, 0), in(api.And, 8, 8, 16, 0), in(api.Or, 8, 8, 0, 0),
		in(api.Beq, 0, 8, 8, 0), in(api.Beq, 0, 0, 8, 0), in(api.Bne, 0, 8, 0, 256), in(api.Bne, 0, 8, 0, -258), in(api.Blt, 0, 8, 0, 0),
		in(api.Jalr, 0, 0, 0, 0), in(api.Jalr, 1, 0, 0, 0), in(api.Jalr, 0, 1, 0, 1), in(api.Jalr, 2, 1, 0, 0),
		in(api.Add, 1, 0, 0, 0), in(api.Add, 1, 1, 0, 0), in(api.Add, 1, 2, 1, 0), in(api.Add, 1, 2, 3, 0),
		in(api.Ecall, 0, 0, 0, 0), in(api.Fence, 0, 0, 0, 0), in(api.Auipc, 1, 0, 0, 1), in(api.Mul, 8, 8, 9, 0), in(api.Lb, 8, 8, 0, 0), in(api.Sh, 0, 8, 8, 0),
	} {
		wantCompress(t, i, 0, api.ErrNone)
	}
}

// TestCompressOfWhatIsNotLegal changes one field of each short instruction's edges, so that all but it would be right.
func TestCompressOfWhatIsNotLegal(t *testing.T) {
	wantCompress(t, api.Inst{}, 0, api.ErrField)
	for _, e := range entries() {
		for _, wrong := range []int{math.MinInt, -1 << 32, -1, 32, 1 << 16, 1<<32 + 8, math.MaxInt} {
			wantCompress(t, in(e.op, wrong, 8, 8, 0), 0, api.ErrField)
			wantCompress(t, in(e.op, 8, wrong, 8, 0), 0, api.ErrField)
			wantCompress(t, in(e.op, 8, 8, wrong, 0), 0, api.ErrField)
		}
		least, most, _ := immBounds(e.format)
		for _, imm := range []int{math.MinInt, -1<<32 + 4, least - 2, most + 2, 1<<32 + 4, math.MaxInt} {
			wantCompress(t, in(e.op, 0, 0, 0, imm), 0, api.ErrField)
		}
	}
	for _, i := range []api.Inst{
		in(0, 8, 8, 8, 0), in(49, 8, 8, 0, 0), in(-1, 0, 0, 0, 0), in(256+api.Ebreak, 0, 0, 0, 0),
		in(api.Ebreak, 1, 0, 0, 0), in(api.Ebreak, 0, 0, 0, 1), in(api.Add, 1, 1, 2, 1), in(api.Addi, 1, 1, 1, 1),
		in(api.Jal, 1, 0, 0, 1), in(api.Jal, 1, 1, 0, 0), in(api.Beq, 0, 8, 0, 1), in(api.Beq, 8, 8, 0, 0), in(api.Sw, 8, 8, 8, 0),
		in(api.Lui, 1, 0, 0, -1), in(api.Lui, 1, 0, 0, -32), in(api.Lui, 1, 1, 0, 1), in(api.Slli, 1, 1, 0, 32), in(api.Srli, 8, 8, 0, -1),
	} {
		wantCompress(t, i, 0, api.ErrField)
	}
}

// TestShortAnswersHangOnArguments asks from several sides at once, and in the other order too.
func TestShortAnswersHangOnArguments(t *testing.T) {
	least := leastParcels()
	all := shorts()
	for _, step := range []int{1, 17, 65535} {
		t.Run(strconv.Itoa(step), func(t *testing.T) {
			t.Parallel()
			for n := range 1 << 16 {
				p := uint16(n * step)
				i, e := hart.Expand(p)
				if n%64 == 0 {
					if want, rows := shortOf(all, p); i != want || (e == api.OK) != (rows == 1) {
						t.Fatalf("P2: Expand(%04x) = %+v, %d", p, i, e)
					}
				}
				if got, err := hart.Compress(i); e == api.OK && (got != least[i] || err != api.OK) {
					t.Fatalf("P2: Compress(%+v) = %04x, %d", i, got, err)
				}
			}
		})
	}
}

package hart_test

import (
	"math"
	"strings"
	"testing"

	"hart/api"
	"hart/hart"
)

func in(op, d, s, t, n int) api.Inst {
	return api.Inst{Op: op, Rd: d, Rs1: s, Rs2: t, Imm: n}
}

// wantBits holds all three calls against an instruction and its bits.
func wantBits(t *testing.T, i api.Inst, w uint32) {
	t.Helper()
	if !hart.Legal(i) {
		t.Errorf("P3: Legal(%+v) is false", i)
	}
	if got, e := hart.Encode(i); got != w || e != api.OK {
		t.Errorf("P3: Encode(%+v) = %08x, %d, want %08x", i, got, e, w)
	}
	if got, e := hart.Decode(w); got != i || e != api.OK {
		t.Errorf("P3: Decode(%08x) = %+v, %d, want %+v", w, got, e, i)
	}
}

func wantField(t *testing.T, i api.Inst) {
	t.Helper()
	if hart.Legal(i) {
		t.Errorf("P3: Legal(%+v) is true", i)
	}
	if w, e := hart.Encode(i); w != 0 || e != api.ErrField {
		t.Errorf("P1, P3: Encode(%+v) = %08x, %d, want ErrField", i, w, e)
	}
}

func wantIllegal(t *testing.T, w uint32) {
	t.Helper()
	if i, e := hart.Decode(w); i != (api.Inst{}) || e != api.ErrIllegal {
		t.Errorf("P1, P3: Decode(%08x) = %+v, %d, want ErrIllegal", w, i, e)
	}
}

func TestExampleOne(t *testing.T) {
	wantBits(t, in(api.Addi, 1, 2, 0, -1), 0xfff10093)
	wantBits(t, in(api.Beq, 0, 1, 2, -4), 0xfe208ee3)
	wantBits(t, in(api.Jal, 0, 0, 0, 2048), 0x0010006f)
	wantBits(t, in(api.Lui, 5, 0, 0, 1048575), 0xfffff2b7)
	wantBits(t, in(api.Sw, 0, 2, 8, 12), 0x00812623)
	wantIllegal(t, 0)
}

// samples are instructions of an Op: the least and the greatest of each of its fields, and some between.
func samples(e entry) []api.Inst {
	var out []api.Inst
	least, most, step := immBounds(e.format)
	middle := step * ((least + most) / 3 / step)
	for _, imm := range []int{least, least + step, 0, middle, most - step, most} {
		if imm < least || imm > most {
			continue
		}
		for _, register := range []int{0, 1, 8, 21, 31} {
			i := api.Inst{Op: e.op, Imm: imm}
			if uses(e.format, "d") {
				i.Rd = register
			}
			if uses(e.format, "s") {
				i.Rs1 = 31 - register
			}
			if uses(e.format, "t") {
				i.Rs2 = register ^ 5
			}
			out = append(out, i)
		}
	}
	return out
}

func TestEveryOp(t *testing.T) {
	all := entries()
	if len(all) != 48 {
		t.Fatalf("the document has 48 Ops, not %d", len(all))
	}
	for k, e := range all {
		if e.op != k+1 {
			t.Fatalf("Op %d stands at %d", e.op, k+1)
		}
		for _, i := range samples(e) {
			wantBits(t, i, bitsOf(e, i))
		}
	}
}

// TestEveryImm goes through all that Imm can be, and on past both its ends.
func TestEveryImm(t *testing.T) {
	for _, op := range []int{api.Lui, api.Jal, api.Jalr, api.Beq, api.Lw, api.Sw, api.Addi, api.Srai, api.Add, api.Fence, api.Ebreak} {
		e := entries()[op-1]
		least, most, step := immBounds(e.format)
		for imm := least - 70; imm <= most+70; imm++ {
			i := api.Inst{Op: op, Imm: imm}
			if imm < least || imm > most || imm%step != 0 {
				wantField(t, i)
				continue
			}
			w, err := hart.Encode(i)
			back, _ := hart.Decode(w)
			if err != api.OK || back != i {
				t.Fatalf("P3: Encode(%+v) = %08x, %d; Decode of that %+v", i, w, err, back)
			}
			if imm%97 < 2 && w != bitsOf(e, i) {
				t.Fatalf("P3: Encode(%+v) = %08x, want %08x", i, w, bitsOf(e, i))
			}
		}
	}
}

func TestNoSuchOp(t *testing.T) {
	for _, op := range []int{math.MinInt, -1 << 32, -48, -1, 0, 49, 50, 64, 256 + 19, 1<<32 + 19, math.MaxInt} {
		wantField(t, in(op, 0, 0, 0, 0))
		wantField(t, in(op, 1, 2, 3, 4))
	}
}

// TestFieldsOfEveryOp changes one field of a legal instruction at a time.
func TestFieldsOfEveryOp(t *testing.T) {
	wrong := []int{math.MinInt, -1 << 32, -32, -1, 32, 33, 64, 256, 1 << 32, math.MaxInt}
	for _, e := range entries() {
		for _, register := range append([]int{0, 1, 31}, wrong...) {
			inside := register >= 0 && register <= 31
			for field, i := range map[string]api.Inst{"d": in(e.op, register, 0, 0, 0), "s": in(e.op, 0, register, 0, 0), "t": in(e.op, 0, 0, register, 0)} {
				if register == 0 || inside && uses(e.format, field) {
					wantBits(t, i, bitsOf(e, i))
				} else {
					wantField(t, i)
				}
			}
		}
		least, most, step := immBounds(e.format)
		for _, imm := range []int{math.MinInt, math.MinInt + 1, -1 << 32, least - 2, least - 1, most + 1, most + 2, 1 << 32, math.MaxInt - 1, math.MaxInt} {
			if imm > most || imm < least || imm%step != 0 {
				wantField(t, in(e.op, 0, 0, 0, imm))
			}
		}
	}
}

func TestOddDistances(t *testing.T) {
	for op := api.Beq; op <= api.Bgeu; op++ {
		for _, imm := range []int{-4095, -3, -1, 1, 3, 4093} {
			wantField(t, in(op, 0, 1, 2, imm))
		}
	}
	for _, imm := range []int{-1048575, -3, -1, 1, 3, 1048573} {
		wantField(t, in(api.Jal, 1, 0, 0, imm))
	}
	wantBits(t, in(api.Jalr, 1, 2, 0, 3), 0x003100e7)
}

// TestFenceOfOtherBits sets every bit that is not looked at, alone and with others.
func TestFenceOfOtherBits(t *testing.T) {
	fence := in(api.Fence, 0, 0, 0, 0)
	for at := range 32 {
		for _, w := range []uint32{0x0000000f | 1<<at, 0xffff8f8f &^ (1 << at)} {
			want := fence
			wantErr := api.OK
			if w&0x707f != 0x0000000f {
				want, wantErr = instOrNone(w)
			}
			if i, e := hart.Decode(w); i != want || e != wantErr {
				t.Errorf("P3: Decode(%08x) = %+v, %d, want %+v, %d", w, i, e, want, wantErr)
			}
		}
	}
	if w, e := hart.Encode(fence); w != 0x0000000f || e != api.OK {
		t.Errorf("P3: Encode(fence) = %08x, %d", w, e)
	}
	for f3 := uint32(1); f3 < 8; f3++ {
		wantIllegal(t, 0x0000000f|f3<<12)
		wantIllegal(t, 0x0ff00f8f|f3<<12)
	}
}

func instOrNone(w uint32) (api.Inst, api.Errno) {
	if i, ok := instOf(entries(), w); ok {
		return i, api.OK
	}
	return api.Inst{}, api.ErrIllegal
}

// TestEcallAndEbreakLookAtAll sets each other bit of those whose 32 bits are all told.
func TestEcallAndEbreakLookAtAll(t *testing.T) {
	wantBits(t, in(api.Ecall, 0, 0, 0, 0), 0x00000073)
	wantBits(t, in(api.Ebreak, 0, 0, 0, 0), 0x00100073)
	for at := 7; at < 32; at++ {
		if at != 20 {
			wantIllegal(t, 0x00000073|1<<at)
			wantIllegal(t, 0x00100073|1<<at)
		}
	}
}

// TestEveryOpcode goes through all of opcode, f3 and f7, with several things in the other fields.
func TestEveryOpcode(t *testing.T) {
	all := entries()
	for opcode := range uint32(128) {
		for f3 := range uint32(8) {
			for f7 := range uint32(128) {
				for _, rest := range []uint32{0, 0x00100000, 0x01ff8f80, 0x00a50280} {
					w := opcode | f3<<12 | f7<<25 | rest
					want, wantErr := api.Inst{}, api.ErrIllegal
					if i, ok := instOf(all, w); ok {
						want, wantErr = i, api.OK
					}
					i, e := hart.Decode(w)
					if i != want || e != wantErr {
						t.Fatalf("P3: Decode(%08x) = %+v, %d, want %+v, %d", w, i, e, want, wantErr)
					}
					if back, err := hart.Encode(i); e == api.OK && i.Op != api.Fence && (back != w || err != api.OK) {
						t.Fatalf("P8: Encode(Decode(%08x)) = %08x, %d", w, back, err)
					}
				}
			}
		}
	}
}

// TestAnswersHangOnArguments asks the same again behind other questions, and from several sides at once.
func TestAnswersHangOnArguments(t *testing.T) {
	ask := func(t *testing.T) {
		for _, e := range entries() {
			for _, i := range samples(e) {
				hart.Encode(in(e.op, -1, 99, 7, math.MaxInt))
				hart.Decode(^bitsOf(e, i))
				if w, err := hart.Encode(i); w != bitsOf(e, i) || err != api.OK {
					t.Errorf("P2: Encode(%+v) = %08x, %d", i, w, err)
				}
				if back, err := hart.Decode(bitsOf(e, i)); back != i || err != api.OK {
					t.Errorf("P2: Decode(%08x) = %+v, %d", bitsOf(e, i), back, err)
				}
			}
		}
	}
	for _, name := range []string{"first", "second", "third"} {
		t.Run(name, func(t *testing.T) {
			t.Parallel()
			ask(t)
			ask(t)
		})
	}
}

// TestNothingPanics asks every call odd things; with an error all else must be nought.
func TestNothingPanics(t *testing.T) {
	numbers := []int{math.MinInt, -1 << 31, -1, 0, 1, 31, 32, 48, 49, 1 << 31, math.MaxInt}
	for _, op := range numbers {
		for _, n := range numbers {
			for _, m := range numbers {
				i := in(op, n, m, n, m)
				if w, e := hart.Encode(i); (e == api.OK) != hart.Legal(i) || e != api.OK && w != 0 {
					t.Errorf("P1: Encode(%+v) = %08x, %d", i, w, e)
				}
				if p, e := hart.Compress(i); e != api.OK && p != 0 {
					t.Errorf("P1: Compress(%+v) = %04x, %d", i, p, e)
				}
				if s, e := hart.Print(i); e != api.OK && s != "" {
					t.Errorf("P1: Print(%+v) = %q, %d", i, s, e)
				}
			}
		}
	}
	for p := range 1 << 16 {
		if i, e := hart.Expand(uint16(p)); e != api.OK && i != (api.Inst{}) {
			t.Errorf("P1: Expand(%04x) = %+v, %d", p, i, e)
		}
		w := uint32(p) * 0x9e3779b1
		if i, e := hart.Decode(w); e != api.OK && i != (api.Inst{}) {
			t.Errorf("P1: Decode(%08x) = %+v, %d", w, i, e)
		}
	}
	for _, text := range []string{"", "\x00", "\xff\xfe", ":", "addi", ",,,", strings.Repeat("(", 5000), strings.Repeat("\n", 100000)} {
		if s, line, e := hart.Assemble(text); e != api.OK && s != "" || e == api.OK && line != 0 {
			t.Errorf("P1: Assemble(%.20q) = %q, %d, %d", text, s, line, e)
		}
	}
}

// TestMachinesDoNotPanic asks the methods of whatever New answered with OK.
func TestMachinesDoNotPanic(t *testing.T) {
	for _, line := range []int{math.MinInt, -4, 0, 1, 4, 8, 16, 32, 64, 128, math.MaxInt} {
		for _, pc := range []uint32{0, 1, 2, 1<<32 - 1, 1<<32 - 2} {
			h, e := hart.New(api.Config{Pc: pc, Line: line, Fuse: true})
			if e != api.OK {
				if h != nil {
					t.Errorf("P1: New(Pc %d, Line %d) = a machine, %d", pc, line, e)
				}
				continue
			}
			h.Poke(1<<32-3, "\x13\x00\x00\x00\xff\xff")
			for k := range 8 {
				h.Tick(k&1 != 0, k&2 != 0)
			}
			h.Look()
			h.Groups()
			for _, n := range []int{math.MinInt, -1, 0, 4096, 4097, math.MaxInt} {
				if s, e := h.Peek(1<<32-1, n); e != api.OK && s != "" {
					t.Errorf("P1: Peek(%d) = %q, %d", n, s, e)
				}
			}
		}
	}
}

package hart_test

import (
	"math/rand"
	"strconv"
	"testing"

	"hart/api"
	"hart/hart"
)

const minus, least = top, 1 << 31

// edges are numbers at which something turns.
func edges() []uint32 {
	return []uint32{0, 1, 2, 3, 7, 31, 32, 33, 63, 127, 128, 255, 2047, 2048, 32767, 32768, 65535, 65536, 0x12345678, least - 2, least - 1, least, least + 1, 0x89abcdef, minus - 65535, minus - 2048, minus - 32, minus - 6, minus - 1, minus}
}

// wantAlike does one instruction on a machine, and as a step, and holds all against each other.
func wantAlike(t *testing.T, c api.Config, words *dictionary, image string, around ...uint32) {
	t.Helper()
	h, _ := hart.New(c)
	p := newPlain(c, words)
	for _, addr := range around {
		h.Poke(addr-8, "\x80\x7f\xff\x00\x81\x92\xa3\xb4\xc5\xd6\xe7\xf8\x09\x1a\x2b\x3c")
		p.poke(addr-8, "\x80\x7f\xff\x00\x81\x92\xa3\xb4\xc5\xd6\xe7\xf8\x09\x1a\x2b\x3c")
	}
	h.Poke(c.Pc, image)
	p.poke(c.Pc, image)
	h.Tick(false, false)
	if s := h.Look(); s.Done == 0 && !s.Halted {
		h.Tick(false, false)
	}
	p.step()
	s := h.Look()
	if s.Pc != p.pc || s.Regs != p.regs || s.Done != p.done || s.Cause != p.cause || s.Halted != (p.cause != 0) {
		i, _ := newPlain(c, words).at(c.Pc)
		t.Errorf("P9: %x at %d (%+v): %+v, want PC %d, %v, done %d, cause %d", image, c.Pc, i, s, p.pc, p.regs, p.done, p.cause)
	}
	for _, addr := range append(around, c.Pc) {
		if got, _ := h.Peek(addr-16, 32); got != p.peek(addr-16, 32) {
			t.Errorf("P9: %x at %d: memory about %d is %x, want %x", image, c.Pc, addr, got, p.peek(addr-16, 32))
		}
	}
}

func imageOf(i api.Inst) string {
	return littleEndian(uint64(bitsOf(entries()[i.Op-1], i)), 4)
}

// TestWhatRegistersBecome: every Op of two registers at all pairs of edges, and of one and Imm.
func TestWhatRegistersBecome(t *testing.T) {
	words := newDictionary()
	for op := api.Add; op <= api.Remu; op++ {
		image := imageOf(in(op, 3, 1, 2, 0))
		for _, a := range edges() {
			for _, b := range edges() {
				c := api.Config{Line: 8, Pc: 64}
				c.Regs[1], c.Regs[2] = a, b
				wantAlike(t, c, words, image)
			}
		}
	}
	for op := api.Addi; op <= api.Srai; op++ {
		most := 2047
		if op >= api.Slli {
			most = 31
		}
		for _, imm := range []int{-2048, -2047, -33, -32, -1, 0, 1, 2, 4, 15, 16, 30, 31, 32, 1024, 2046, 2047} {
			if imm > most || op >= api.Slli && imm < 0 {
				continue
			}
			image := imageOf(in(op, 3, 1, 0, imm))
			for _, a := range edges() {
				c := api.Config{Line: 4, Pc: 64}
				c.Regs[1] = a
				wantAlike(t, c, words, image)
			}
		}
	}
}

// TestRegistersThatAreTheSame: what is read is what was there before, and all 32 are registers.
func TestRegistersThatAreTheSame(t *testing.T) {
	words := newDictionary()
	c := api.Config{Line: 16, Pc: 32}
	for n := range c.Regs {
		c.Regs[n] = uint32(n)*0x9e3779b9 + 5
	}
	for _, e := range entries() {
		for _, d := range []int{0, 1, 2, 31} {
			for _, s := range []int{0, 1, 2, 31} {
				for _, b := range []int{0, 1, 2, 31} {
					i := in(e.op, 0, 0, 0, 0)
					if uses(e.format, "d") {
						i.Rd = d
					}
					if uses(e.format, "s") {
						i.Rs1 = s
					}
					if uses(e.format, "t") {
						i.Rs2 = b
					}
					if uses(e.format, "i") {
						i.Imm = 6
					}
					wantAlike(t, c, words, imageOf(i), c.Regs[s]+6)
				}
			}
		}
	}
}

// TestPlacesThatAreTold: PC at the ends of memory and of lines, every Op that looks at it.
func TestPlacesThatAreTold(t *testing.T) {
	words := newDictionary()
	for _, line := range []int{4, 8, 16, 32, 64} {
		for _, pc := range []uint32{0, 2, 4, 60, 62, 64, 254, 256, least - 2, least, top - 5, top - 3, top - 1} {
			c := api.Config{Line: line, Pc: pc}
			c.Regs[1], c.Regs[2] = 1000, minus
			for _, imm := range []int{0, 1, 2, 1 << 19, 1<<20 - 1} {
				wantAlike(t, c, words, imageOf(in(api.Auipc, 3, 0, 0, imm)))
				wantAlike(t, c, words, imageOf(in(api.Lui, 3, 0, 0, imm)))
			}
			for _, imm := range []int{-1048576, -4096, -4, -2, 0, 2, 4, 6, 4094, 1048574} {
				wantAlike(t, c, words, imageOf(in(api.Jal, 3, 0, 0, imm)))
				wantAlike(t, c, words, imageOf(in(api.Jal, 0, 0, 0, imm)))
			}
			for _, imm := range []int{-2048, -1001, -1000, -999, -1, 0, 1, 2, 3, 2047} {
				for _, d := range []int{0, 1, 2, 3} {
					wantAlike(t, c, words, imageOf(in(api.Jalr, d, 1, 0, imm)))
					wantAlike(t, c, words, imageOf(in(api.Jalr, d, 2, 0, imm)))
				}
			}
		}
	}
}

func TestBranchesAtEdges(t *testing.T) {
	words := newDictionary()
	for op := api.Beq; op <= api.Bgeu; op++ {
		for _, a := range edges() {
			for _, b := range edges() {
				c := api.Config{Line: 8, Pc: 62}
				c.Regs[1], c.Regs[2] = a, b
				wantAlike(t, c, words, imageOf(in(op, 0, 1, 2, -40)))
			}
		}
		for _, imm := range []int{-4096, -66, -64, -2, 0, 2, 4, 6, 4094} {
			c := api.Config{Line: 8, Pc: 62}
			c.Regs[1], c.Regs[2] = 5, 5
			wantAlike(t, c, words, imageOf(in(op, 0, 1, 2, imm)))
			c.Regs[2] = 6
			wantAlike(t, c, words, imageOf(in(op, 0, 1, 2, imm)))
		}
	}
}

// TestLoadsAndStoresAnywhere: each size at every address about the ends of memory and of its parts.
func TestLoadsAndStoresAnywhere(t *testing.T) {
	words := newDictionary()
	for op := api.Lb; op <= api.Sw; op++ {
		for _, middle := range []uint32{0, 256, 4096, 65536, least} {
			for away := range uint32(14) {
				for _, imm := range []int{-2048, -1, 0, 1, 2047} {
					addr := middle + away - 7
					c := api.Config{Line: 64, Pc: 1 << 20}
					c.Regs[1], c.Regs[2] = addr-uint32(imm), 0x8182f384
					i := in(op, 3, 1, 0, imm)
					if op >= api.Sb {
						i = in(op, 0, 1, 2, imm)
					}
					wantAlike(t, c, words, imageOf(i), addr)
				}
			}
		}
	}
}

// TestEveryShortDoesAsItsLongOne: but for NEXT, which is 2 behind PC.
func TestEveryShortDoesAsItsLongOne(t *testing.T) {
	words := newDictionary()
	r := rand.New(rand.NewSource(4))
	c := api.Config{Line: 32, Pc: 100}
	for n := range c.Regs {
		c.Regs[n] = r.Uint32()
	}
	c.Regs[9], c.Regs[10] = 0, 0
	for p := range 1 << 16 {
		if p%4 == 3 && p%32 != 31 {
			continue
		}
		wantAlike(t, c, words, littleEndian(uint64(p), 2))
	}
}

// TestWordsOfNoInstruction: they halt, as do those that would be longer than 32 bits.
func TestWordsOfNoInstruction(t *testing.T) {
	words := newDictionary()
	r := rand.New(rand.NewSource(5))
	for range 20000 {
		c := api.Config{Line: 4 << r.Intn(5), Pc: r.Uint32() &^ 1}
		for n := range c.Regs {
			c.Regs[n] = r.Uint32()
		}
		wantAlike(t, c, words, littleEndian(uint64(r.Uint32()|3), 4))
	}
}

// TestNumbersAsTheDocumentTellsThem has its own answers, lest both tellings be wrong alike.
func TestNumbersAsTheDocumentTellsThem(t *testing.T) {
	for _, c := range []struct {
		source     string
		a, b, want uint32
	}{
		{"mul x3, x1, x2", 65536, 65536, 0}, {"mul x3, x1, x2", minus, 5, minus - 4}, {"mulh x3, x1, x2", least, least, 1 << 30}, {"mulh x3, x1, x2", minus, 1, minus}, {"mulhsu x3, x1, x2", minus, minus, minus}, {"mulhsu x3, x1, x2", 2, minus, 1}, {"mulhu x3, x1, x2", minus, minus, minus - 1},
		{"div x3, x1, x2", minus - 6, 2, minus - 2}, {"div x3, x1, x2", 5, 0, minus}, {"div x3, x1, x2", least, minus, least}, {"rem x3, x1, x2", minus - 6, 2, minus}, {"rem x3, x1, x2", 7, minus - 1, 1}, {"rem x3, x1, x2", least, 0, least}, {"rem x3, x1, x2", least, minus, 0}, {"divu x3, x1, x2", minus, 16, 268435455}, {"divu x3, x1, x2", 0, 0, minus}, {"divu x3, x1, x2", least, minus, 0}, {"remu x3, x1, x2", minus, 16, 15}, {"remu x3, x1, x2", 9, 0, 9}, {"remu x3, x1, x2", least, minus, least},
		{"sll x3, x1, x2", 3, 63, least}, {"srl x3, x1, x2", minus, 33, least - 1}, {"sra x3, x1, x2", least, 33, 0xc0000000}, {"srai x3, x1, 31", least, 0, minus}, {"sltiu x3, x1, -1", 0, 0, 1}, {"slti x3, x1, -1", 0, 0, 0}, {"lui x3, 1048575", 0, 0, 4294963200}, {"auipc x3, 1048575", 0, 0, 4294963300},
	} {
		k := api.Config{Line: 4, Pc: 100}
		k.Regs[1], k.Regs[2] = c.a, c.b
		if s := ticks(machineOf(t, k, c.source), 1); s.Regs[3] != c.want || s.Done != 1 {
			t.Errorf("P9: %s of %d, %d: %d, want %d", c.source, c.a, c.b, s.Regs[3], c.want)
		}
	}
}

// TestJumpsByTheirOwnRegister: a as it was before.
func TestJumpsByTheirOwnRegister(t *testing.T) {
	c := api.Config{Line: 16, Pc: 40}
	c.Regs[1] = 1001
	for source, next := range map[string]uint32{"jalr x1, x1, 0": 44, "c.jalr x1, x1, 0": 42} {
		if s := ticks(machineOf(t, c, source), 1); s.Pc != 1000 || s.Regs[1] != next || s.Done != 1 || s.Queue != 0 {
			t.Errorf("P9: %s: %+v", source, s)
		}
	}
}

// TestALoopThatCounts goes ahead and back, through short ones and long ones in turn.
func TestALoopThatCounts(t *testing.T) {
	source := "c.addi x10, x0, 0\naddi x11, x0, 100\nloop: c.add x10, x10, x11\naddi x11, x11, -1\njal x1, sub\nc.addi x12, x12, 1\nbne x11, x0, loop\nc.ebreak\nsub: mul x13, x11, x11\nc.jalr x0, x1, 0"
	for _, line := range []int{4, 8, 16, 32, 64} {
		for _, pc := range []uint32{0, 2, 62, top - 9, top - 1} {
			s := ticks(machineOf(t, api.Config{Line: line, Pc: pc}, source), 2000)
			if !s.Halted || s.Cause != api.Break || s.Done != 2+7*100 || s.Regs[10] != 5050 || s.Regs[12] != 100 {
				t.Errorf("P9: by lines of %d at %d: %+v", line, pc, s)
			}
		}
	}
}

// TestLongOnesAcrossLines: half of it at the end of a line, or of memory.
func TestLongOnesAcrossLines(t *testing.T) {
	for _, line := range []int{4, 8, 16, 32, 64} {
		for _, pc := range []uint32{uint32(line) - 2, 1024 - 2, top - 1} {
			h := machineOf(t, api.Config{Line: line, Pc: pc}, "addi x1, x0, 1365\naddi x2, x1, 1\necall")
			h.Tick(false, false)
			if s := h.Look(); s.Done != 0 || s.Queue != 1 || s.Pc != pc {
				t.Errorf("P7: half of it by lines of %d: %+v", line, s)
			}
			h.Tick(true, false)
			if s := h.Look(); s.Done != 0 || s.Queue != 1 {
				t.Errorf("P7: half of it, and fetching stalled, by lines of %d: %+v", line, s)
			}
			h.Tick(false, false)
			if s := h.Look(); s.Done != 1 || s.Queue != line/2-1 || s.Pc != pc+4 || s.Regs[1] != 1365 {
				t.Errorf("P7: all of it by lines of %d: %+v", line, s)
			}
			if s := ticks(h, 4); s.Done != 2 || s.Pc != pc+8 || s.Regs[2] != 1366 || s.Cause != api.Call {
				t.Errorf("P7: behind it by lines of %d: %+v", line, s)
			}
		}
	}
}

func TestExampleFive(t *testing.T) {
	c := api.Config{Line: 4}
	c.Regs[2] = 2
	h, _ := hart.New(c)
	h.Poke(0, "\x93\x80\x10\x00\xe3\x9e\x20\xfe")
	if s := ticks(h, 4); s.Done != 4 || s.Pc != 8 || s.Regs[1] != 2 {
		t.Errorf("P7: %+v", s)
	}
	want := []uint32{0, 4, 0, 4}
	for k, g := range h.Groups() {
		if g != (api.Group{Pc: want[k], Count: 1}) {
			t.Errorf("P7: group %s: %+v", strconv.Itoa(k), g)
		}
	}
}

package hart_test

import (
	"math/rand"
	"slices"
	"strings"
	"sync"
	"testing"

	"hart/api"
	"hart/hart"
)

// beat is a tick, and what is to be seen behind it.
type beat struct {
	fetch, rest bool
	queue, done int
	pc          uint32
}

func wantBeats(t *testing.T, h *hart.Hart, beats ...beat) {
	t.Helper()
	for k, b := range beats {
		h.Tick(b.fetch, b.rest)
		if s := h.Look(); s.Queue != b.queue || s.Done != b.done || s.Pc != b.pc {
			t.Fatalf("P7: behind tick %d: %d parcels, %d done, PC %d, want %+v", k, s.Queue, s.Done, s.Pc, b)
		}
	}
}

func TestStalls(t *testing.T) {
	h := machineOf(t, api.Config{Line: 8, Pc: 4}, strings.Repeat("addi x1, x1, 1\nc.addi x1, x1, 1\n", 20))
	wantBeats(t, h,
		beat{true, true, 0, 0, 4},
		beat{true, false, 0, 0, 4},
		beat{false, true, 2, 0, 4},
		beat{true, true, 2, 0, 4},
		beat{true, false, 0, 1, 8},
		beat{true, false, 0, 1, 8},
		beat{false, false, 3, 2, 10},
		beat{true, false, 1, 3, 14},
		beat{true, false, 0, 4, 16},
		beat{false, true, 4, 4, 16},
		beat{false, false, 6, 5, 20})
	if s := h.Look(); s.Regs[1] != 5 {
		t.Errorf("P9: %+v", s)
	}
}

// TestFullBuffer: a line is fetched whole or not at all, and not above 48 parcels.
func TestFullBuffer(t *testing.T) {
	for _, c := range []struct {
		line   int
		pc     uint32
		queues []int
	}{
		{64, 0, []int{32, 32, 32}},
		{64, 32, []int{16, 48, 48}},
		{64, 30, []int{17, 17, 17}},
		{64, 62, []int{1, 33, 33}},
		{32, 0, []int{16, 32, 48, 48}},
		{32, 2, []int{15, 31, 47, 47}},
		{32, top - 1, []int{1, 17, 33, 33}},
		{16, 0, []int{8, 16, 24, 32, 40, 48, 48}},
		{16, 14, []int{1, 9, 17, 25, 33, 41, 41}},
		{8, 2, []int{3, 7, 11, 15, 19, 23, 27, 31, 35, 39, 43, 47, 47}},
		{4, 2, []int{1, 3, 5, 7, 9, 11, 13, 15, 17, 19, 21, 23, 25, 27, 29, 31, 33, 35, 37, 39, 41, 43, 45, 47, 47}},
	} {
		h := machineOf(t, api.Config{Line: c.line, Pc: c.pc}, strings.Repeat("c.addi x8, x8, 1\n", 100))
		for k, want := range c.queues {
			h.Tick(false, true)
			if s := h.Look(); s.Queue != want || s.Done != 0 || s.Pc != c.pc {
				t.Errorf("P7, P10: lines of %d from %d, behind %d: %+v, want %d parcels", c.line, c.pc, k+1, s, want)
			}
		}
	}
	// One place is free again, but a line of 4 needs two.
	h := machineOf(t, api.Config{Line: 4}, strings.Repeat("c.addi x8, x8, 1\n", 100))
	for range 30 {
		h.Tick(false, true)
	}
	wantBeats(t, h, beat{true, false, 47, 1, 2}, beat{false, true, 47, 1, 2}, beat{true, false, 46, 2, 4}, beat{false, false, 47, 3, 6}, beat{false, false, 46, 4, 8}, beat{false, true, 48, 4, 8}, beat{false, false, 47, 5, 10})
}

// TestWhatEmptiesTheBuffer: stores do and what goes elsewhere, not what goes to NEXT by a jump.
func TestWhatEmptiesTheBuffer(t *testing.T) {
	for source, want := range map[string]struct {
		queue int
		pc    uint32
	}{
		"fence":                    {30, 4},
		"c.addi x1, x1, 1":         {31, 2},
		"lw x1, 0(x2)":             {30, 4},
		"sw x1, 2000(x0)":          {0, 4},
		"sh x1, 2000(x0)":          {0, 4},
		"sb x1, 2000(x0)":          {0, 4},
		"c.sw x8, 0(x9)":           {0, 2},
		"jal x1, 4":                {30, 4},
		"jal x1, 2":                {0, 2},
		"jal x1, 8":                {0, 8},
		"jal x0, 0":                {0, 0},
		"c.jal x0, 2":              {31, 2},
		"c.jal x1, 4":              {0, 4},
		"jalr x1, x2, 5":           {30, 4},
		"jalr x1, x2, 6":           {0, 6},
		"beq x0, x0, 4":            {30, 4},
		"beq x0, x0, 8":            {0, 8},
		"bne x0, x0, 8":            {30, 4},
		"c.beq x8, x0, 2":          {31, 2},
		"c.beq x8, x0, -2":         {0, top - 1},
		"c.bne x8, x0, -2":         {31, 2},
		"lui x1, 1\naddi x1,x1, 1": {28, 8},
	} {
		h := machineOf(t, api.Config{Line: 64, Fuse: true}, source)
		h.Tick(false, false)
		if s := h.Look(); s.Queue != want.queue || s.Pc != want.pc {
			t.Errorf("P7: %s: %d parcels, PC %d, want %+v", source, s.Queue, s.Pc, want)
		}
		// What is fetched next shows AHEAD.
		left := 32
		if want.queue == 0 {
			left = int(64-want.pc%64) / 2
		}
		if want.queue+left > 48 {
			left = 0
		}
		h.Tick(false, true)
		if s := h.Look(); s.Queue != want.queue+left {
			t.Errorf("P7: %s: %d parcels behind the next line, want %d", source, s.Queue, want.queue+left)
		}
	}
}

// TestHaltsChangeNothing: the cause is told; PC, registers, memory, Done, groups and the buffer stay.
func TestHaltsChangeNothing(t *testing.T) {
	for source, cause := range map[string]int{
		"ecall": api.Call, "ebreak": api.Break, "c.ebreak": api.Break,
		".half 0": api.Illegal, ".half 31": api.Illegal, ".half 0xffff": api.Illegal, ".half 0x9c41": api.Illegal, ".word 0x7b": api.Illegal, ".word 0x2067": api.Illegal, ".word 0x10200073": api.Illegal, ".word 0x00200073": api.Illegal, ".word 0x100f": api.Illegal,
	} {
		for _, line := range []int{4, 8, 16, 32, 64} {
			for _, fuse := range []bool{false, true} {
				c := api.Config{Line: line, Pc: 58, Fuse: fuse}
				c.Regs[5] = 1000
				h := machineOf(t, c, "addi x1, x0, 5\nc.addi x8, x8, 3\n"+source+"\naddi x1, x0, 6\nsw x1, 0(x5)")
				for range 9 {
					h.Tick(false, false)
					if h.Look().Done == 2 {
						break
					}
				}
				before := h.Look()
				for range 3 {
					if !h.Look().Halted {
						h.Tick(false, false)
					}
				}
				s := h.Look()
				want := before
				want.Halted, want.Cause, want.Queue = true, cause, s.Queue
				if before.Halted || before.Cause != 0 || s != want || s.Queue == 0 {
					t.Errorf("P7, P9: %s by lines of %d: %+v, want %+v", source, line, s, want)
				}
				for k := range 8 {
					h.Tick(k&1 != 0, k&2 != 0)
				}
				if later := h.Look(); later != s {
					t.Errorf("P7: %s by lines of %d: ticks behind the halt: %+v, want %+v", source, line, later, s)
				}
				if g := h.Groups(); !slices.Equal(g, []api.Group{{Pc: 58, Count: 1}, {Pc: 62, Count: 1}}) {
					t.Errorf("P7: %s: groups %v", source, g)
				}
				wantPeek(t, h, 1000, "\x00\x00\x00\x00")
			}
		}
	}
}

// TestHaltsAtTheFirstParcel: one that is illegal needs no second, a long one does.
func TestHaltsAtTheFirstParcel(t *testing.T) {
	for source, halts := range map[string]bool{".half 0": true, ".half 31": true, ".half 0xffff": true, ".half 0x8002": true, "c.ebreak": true, "ecall": false, "ebreak": false, ".word 0x7b": false, ".word 0xfffffffb": false} {
		h := machineOf(t, api.Config{Line: 16, Pc: 14}, source)
		h.Tick(false, false)
		if s := h.Look(); s.Halted != halts || s.Queue != 1 || s.Pc != 14 {
			t.Errorf("P7: %s: one parcel: %+v", source, s)
		}
		h.Tick(false, false)
		queue := 9
		if halts {
			queue = 1
		}
		if s := h.Look(); !s.Halted || s.Queue != queue || s.Done != 0 || len(h.Groups()) != 0 {
			t.Errorf("P7: %s: two parcels: %+v", source, s)
		}
	}
}

func countsOf(h *hart.Hart) []int {
	var out []int
	for _, g := range h.Groups() {
		out = append(out, g.Count)
	}
	return out
}

// TestPairs: each, with FUSES and without, and what is nearly one.
func TestPairs(t *testing.T) {
	for source, pair := range map[string]bool{
		"lui x1, 5\naddi x1, x1, -1":         true,
		"lui x31, 0\naddi x31, x31, 0":       true,
		"c.lui x1, 5\naddi x1, x1, 9":        true,
		"lui x1, 5\nc.addi x1, x1, -1":       true,
		"lui x2, 5\nc.addi x2, x2, 496":      true,
		"c.lui x9, 31\nc.addi x9, x9, 3":     true,
		"auipc x1, 5\naddi x1, x1, -1":       true,
		"auipc x7, 1\nc.addi x7, x7, 1":      true,
		"slli x1, x2, 4\nsrli x1, x1, 8":     true,
		"slli x2, x2, 4\nsrli x2, x2, 0":     true,
		"slli x3, x0, 31\nsrli x3, x3, 31":   true,
		"c.slli x8, x8, 4\nc.srli x8, x8, 9": true,
		"slli x8, x2, 4\nc.srli x8, x8, 9":   true,
		"c.slli x1, x1, 4\nsrli x1, x1, 9":   true,
		"lui x0, 5\naddi x0, x0, -1":         false,
		"auipc x0, 5\naddi x0, x0, -1":       false,
		"slli x0, x2, 4\nsrli x0, x0, 8":     false,
		"c.slli x0, x0, 4\nc.addi x0, x0, 0": false,
		"lui x1, 5\naddi x2, x1, -1":         false,
		"lui x1, 5\naddi x1, x2, -1":         false,
		"lui x1, 5\naddi x2, x2, -1":         false,
		"lui x1, 5\naddi x1, x0, -1":         false,
		"lui x1, 5\nc.addi x1, x0, 1":        false,
		"lui x1, 5\nori x1, x1, 1":           false,
		"lui x1, 5\nadd x1, x1, x1":          false,
		"lui x1, 5\nslti x1, x1, 1":          false,
		"lui x1, 5\nsrli x1, x1, 1":          false,
		"lui x1, 5\nlw x1, 0(x1)":            false,
		"lui x1, 5\njalr x1, x1, 0":          false,
		"auipc x1, 5\njalr x1, x1, 0":        false,
		"auipc x1, 5\naddi x1, x2, 0":        false,
		"slli x1, x2, 4\nsrli x1, x2, 8":     false,
		"slli x1, x2, 4\nsrli x2, x1, 8":     false,
		"slli x1, x2, 4\nsrai x1, x1, 8":     false,
		"slli x1, x2, 4\naddi x1, x1, 8":     false,
		"slli x1, x2, 4\nslli x1, x1, 8":     false,
		"sll x1, x2, x3\nsrl x1, x1, x3":     false,
		"srli x1, x2, 4\nslli x1, x1, 8":     false,
		"addi x1, x1, 4\nlui x1, 8":          false,
		"addi x1, x1, 4\naddi x1, x1, 8":     false,
		"fence\naddi x1, x1, 1":              false,
		"c.addi x8, x0, 5\nc.addi x8, x8, 1": false,
	} {
		image, _, e := hart.Assemble(source + "\nfence")
		if e != api.OK {
			t.Fatalf("P6: %q: %d", source, e)
		}
		for _, fuse := range []bool{false, true} {
			c := api.Config{Line: 64, Pc: 128, Fuse: fuse}
			c.Regs[2], c.Regs[8] = 0xdeadbeef, 0x12345678
			h, _ := hart.New(c)
			h.Poke(128, image)
			p := newPlain(c, newDictionary())
			p.poke(128, image)
			want := 1
			if fuse && pair {
				want = 2
			}
			for range want {
				p.step()
			}
			h.Tick(false, false)
			s := h.Look()
			if s.Done != want || s.Pc != p.pc || s.Regs != p.regs || s.Queue != 0 && s.Queue != 32-int(p.pc-128)/2 {
				t.Errorf("P7: %q, FUSES %v: %+v, want %d done, PC %d, %v", source, fuse, s, want, p.pc, p.regs)
			}
			if g := h.Groups(); !slices.Equal(g, []api.Group{{Pc: 128, Count: want}}) {
				t.Errorf("P7: %q, FUSES %v: groups %v", source, fuse, g)
			}
		}
	}
}

// TestPairsThatAreNotWhole: the first is done alone, if not all of the second was fetched.
func TestPairsThatAreNotWhole(t *testing.T) {
	pair := "lui x1, 5\naddi x1, x1, -1\nfence"
	h := machineOf(t, api.Config{Line: 8, Pc: 4, Fuse: true}, pair)
	wantBeats(t, h, beat{false, false, 0, 1, 8}, beat{false, false, 2, 2, 12})
	// One parcel of the second.
	h = machineOf(t, api.Config{Line: 8, Pc: 2, Fuse: true}, pair)
	wantBeats(t, h, beat{false, false, 1, 1, 6}, beat{false, false, 3, 2, 10})
	// It comes in time, if the rest is stalled.
	h = machineOf(t, api.Config{Line: 8, Pc: 4, Fuse: true}, pair)
	wantBeats(t, h, beat{false, true, 2, 0, 4}, beat{false, false, 2, 2, 12})
	// A short second needs one parcel alone.
	h = machineOf(t, api.Config{Line: 8, Pc: 2, Fuse: true}, "lui x1, 5\nc.addi x1, x1, -1\nfence")
	wantBeats(t, h, beat{false, false, 0, 2, 8})
	// Behind the end of memory.
	h = machineOf(t, api.Config{Line: 16, Pc: top - 3, Fuse: true}, pair)
	wantBeats(t, h, beat{false, true, 2, 0, top - 3}, beat{false, false, 6, 2, 4})
	if s := h.Look(); s.Regs[1] != 5*4096-1 {
		t.Errorf("P9: %+v", s)
	}
}

// TestPairsInARow: no instruction is in two of them.
func TestPairsInARow(t *testing.T) {
	for source, want := range map[string][]int{
		"lui x1, 1\nlui x1, 2\naddi x1, x1, 3\naddi x1, x1, 4\necall":                              {1, 2, 1},
		"slli x1, x1, 1\nsrli x1, x1, 1\nslli x1, x1, 1\nsrli x1, x1, 1\necall":                    {2, 2},
		"auipc x1, 1\naddi x1, x1, 3\naddi x1, x1, 3\nlui x1, 4\necall":                            {2, 1, 1},
		"fence\nlui x1, 1\naddi x1, x1, 3\nc.lui x3, 3\nc.addi x3, x3, 1\nc.addi x3, x3, 1\necall": {1, 2, 2, 1},
		"lui x1, 1\n.half 0": {1},
		"lui x1, 1\necall":   {1},
	} {
		h := machineOf(t, api.Config{Line: 64, Fuse: true}, source)
		if ticks(h, 20); !slices.Equal(countsOf(h), want) {
			t.Errorf("P7: %q: %v, want %v", source, countsOf(h), want)
		}
	}
}

// TestProgramsThatWriteOverThemselves: what was fetched already is not done, if it was written over.
func TestProgramsThatWriteOverThemselves(t *testing.T) {
	for _, line := range []int{4, 8, 16, 32, 64} {
		for _, fuse := range []bool{false, true} {
			c := api.Config{Line: line, Pc: 0, Fuse: fuse}
			// addi x1, x1, 1 becomes one of 64, by all four bytes, then by two; and one of 97, by one.
			c.Regs[2], c.Regs[3], c.Regs[4] = 0x04008093, 0x0400, 0x06
			h := machineOf(t, c, "sw x2, 4(x0)\naddi x1, x1, 1\nsh x3, 14(x0)\naddi x1, x1, 1\nsb x4, 23(x0)\naddi x1, x1, 1\necall")
			for range 20 {
				h.Tick(false, true)
			}
			s := ticks(h, 30)
			if s.Done != 6 || s.Cause != api.Call || s.Regs[1] != 64+64+97 {
				t.Errorf("P9: by lines of %d: %+v", line, s)
			}
		}
	}
}

// soup is a program of instructions of all kinds, many of them about the program itself.
func soup(r *rand.Rand, legal []uint16, all []entry) string {
	var out strings.Builder
	for out.Len() < 400 {
		switch r.Intn(20) {
		case 0:
			out.WriteString([]string{littleEndian(r.Uint64(), 2), "\x73\x00\x00\x00", "\x73\x00\x10\x00", "\x01\x00", "\x0f\x00\x00\x00"}[r.Intn(5)])
		case 1, 2, 3, 4, 5, 6, 7:
			out.WriteString(littleEndian(uint64(legal[r.Intn(len(legal))]), 2))
		case 8, 9, 10:
			d := r.Intn(3)
			out.WriteString(littleEndian(uint64(bitsOf(all[[]int{0, 1, 24}[d]], in([]int{1, 2, 25}[d], 1+d, 0, 0, 3))), 4))
			out.WriteString(littleEndian(uint64(bitsOf(all[[]int{18, 18, 25}[d]], in([]int{19, 19, 26}[d], 1+d, 1+d, 0, 5))), 4))
		default:
			e := all[r.Intn(len(all)-2)]
			lowest, most, step := immBounds(e.format)
			imm := max(lowest, min(most, r.Intn(100)-50))
			if uses(e.format, "i") && r.Intn(6) == 0 {
				imm = lowest + r.Intn(most-lowest+1)
			}
			i := in(e.op, r.Intn(12), r.Intn(12), r.Intn(12), imm/step*step)
			out.WriteString(littleEndian(uint64(bitsOf(e, i)), 4))
		}
	}
	return out.String()
}

// soupAhead is how many bytes of it lie ahead of PC.
const soupAhead = 200

// legalParcels are all short instructions, by the document's pictures; asked once, since it takes long.
var legalParcels = sync.OnceValue(func() []uint16 {
	var out []uint16
	words := newDictionary()
	for p := range 1 << 16 {
		if words.short(uint16(p)).Op != 0 {
			out = append(out, uint16(p))
		}
	}
	return out
})

func soupConfig(r *rand.Rand) api.Config {
	c := api.Config{Line: 4 << r.Intn(5), Pc: r.Uint32() &^ 1, Fuse: r.Intn(2) == 0}
	if r.Intn(3) == 0 {
		c.Pc = -uint32(r.Intn(60)) &^ 1
	}
	for n := range c.Regs {
		c.Regs[n] = []uint32{c.Pc + uint32(r.Intn(80)), c.Pc + uint32(r.Intn(80)), r.Uint32(), uint32(r.Intn(5)), 0}[r.Intn(5)]
	}
	return c
}

// TestEveryTickAsTold holds a machine against the second telling, at every tick, whatever is stalled and poked.
func TestEveryTickAsTold(t *testing.T) {
	r := rand.New(rand.NewSource(6))
	words := newDictionary()
	legal, all := legalParcels(), entries()
	kinds := map[string]int{}
	for range 4000 {
		c, image := soupConfig(r), soup(r, legal, all)
		h, _ := hart.New(c)
		told := newTicking(c, words)
		h.Poke(c.Pc-soupAhead, image)
		told.poke(c.Pc-soupAhead, image)
		often := r.Intn(4)
		for n := range 60 {
			fetch, rest := r.Intn(4) < often, r.Intn(5) < often
			h.Tick(fetch, rest)
			told.tick(fetch, rest)
			if r.Intn(40) == 0 {
				addr, bytes := told.pc+uint32(r.Intn(40))-20, soup(r, legal, all)[:r.Intn(9)]
				h.Poke(addr, bytes)
				told.poke(addr, bytes)
			}
			if s := h.Look(); s != told.look() || s.Queue > 48 {
				t.Fatalf("P7, P9: %x, %+v: behind tick %d: %+v, want %+v", image, c, n, s, told.look())
			}
			if g := h.Groups(); !slices.Equal(g, told.lastGroups()) {
				t.Fatalf("P7: %x, %+v: behind tick %d: %v, want %v", image, c, n, g, told.lastGroups())
			}
		}
		for addr := range told.bytes {
			wantPeek(t, h, addr-2, told.peek(addr-2, 5))
		}
		for _, g := range told.groups {
			kinds[[]string{"", "one", "two"}[g.Count]]++
		}
		kinds[[]string{"running", "illegal", "call", "break"}[told.cause]]++
	}
	for _, kind := range []string{"one", "two", "running", "illegal", "call", "break"} {
		if kinds[kind] < 100 {
			t.Errorf("the programs are too much alike: %v", kinds)
		}
	}
}

// TestStepsOneAfterTheOther is P9: behind every tick all is as Done steps leave it, and a halt is one of the next step.
func TestStepsOneAfterTheOther(t *testing.T) {
	r := rand.New(rand.NewSource(7))
	words := newDictionary()
	legal, all := legalParcels(), entries()
	for range 3000 {
		c, image := soupConfig(r), soup(r, legal, all)
		for _, line := range []int{4, 8, 16, 32, 64} {
			c.Line, c.Fuse = line, !c.Fuse
			h, _ := hart.New(c)
			h.Poke(c.Pc-soupAhead, image)
			p := newPlain(c, words)
			p.poke(c.Pc-soupAhead, image)
			for range 40 {
				h.Tick(r.Intn(3) == 0, r.Intn(3) == 0)
				s := h.Look()
				for p.done < s.Done {
					p.step()
				}
				if s.Halted {
					p.step()
				}
				if s.Pc != p.pc || s.Regs != p.regs || s.Done != p.done || s.Cause != p.cause {
					t.Fatalf("P9: %x, %+v: %+v, want PC %d, %v, done %d, cause %d", image, c, s, p.pc, p.regs, p.done, p.cause)
				}
			}
			if got, _ := h.Peek(c.Pc-300, 600); got != p.peek(c.Pc-300, 600) {
				t.Fatalf("P9: %x, %+v: memory %x, want %x", image, c, got, p.peek(c.Pc-300, 600))
			}
		}
	}
}

// wantPace is P10: of the ticks in which nothing is stalled, any 2k have k instructions done.
func wantPace(t *testing.T, h *hart.Hart, n int, stalls func() (bool, bool)) {
	t.Helper()
	done := []int{h.Look().Done}
	for range n {
		fetch, rest := stalls()
		h.Tick(fetch, rest)
		s := h.Look()
		if s.Queue > api.MaxQueue {
			t.Fatalf("P10: %d parcels", s.Queue)
		}
		if s.Halted {
			break
		}
		if !fetch && !rest {
			done = append(done, s.Done)
		}
	}
	for from := range done {
		for k := 1; from+2*k < len(done); k++ {
			if done[from+2*k]-done[from] < k {
				t.Fatalf("P10: %d done in %d ticks from %d on", done[from+2*k]-done[from], 2*k, from)
			}
		}
	}
}

// TestPace: the slowest there is, jumps to the last parcel of a line; and programs as they come.
func TestPace(t *testing.T) {
	r := rand.New(rand.NewSource(8))
	never := func() (bool, bool) { return false, false }
	sometimes := func() (bool, bool) { return r.Intn(3) == 0, r.Intn(3) == 0 }
	for _, line := range []int{4, 8, 16, 32, 64} {
		pc := uint32(line - 2)
		h := machineOf(t, api.Config{Line: line, Pc: pc}, "jal x0, 128\n.space 124\nsw x1, 1024(x0)\n.space 124")
		image, _, _ := hart.Assemble("jal x0, -128")
		h.Poke(pc+128, image)
		wantPace(t, h, 60, never)
		if s := h.Look(); s.Done != 30 || s.Halted {
			t.Errorf("P10: jumps to a line's end, by lines of %d: %+v", line, s)
		}
		wantPace(t, h, 200, sometimes)
	}
	legal, all := legalParcels(), entries()
	for k := range 2000 {
		c := soupConfig(r)
		h, _ := hart.New(c)
		h.Poke(c.Pc-soupAhead, soup(r, legal, all))
		wantPace(t, h, 60, []func() (bool, bool){never, sometimes}[k%2])
	}
}

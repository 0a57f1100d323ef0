package hart_test

import (
	"math"
	"math/rand"
	"reflect"
	"slices"
	"strings"
	"testing"

	"hart/api"
	"hart/hart"
)

const top = 1<<32 - 1

// machineOf makes one and pokes a source to its PC.
func machineOf(t *testing.T, c api.Config, source string) *hart.Hart {
	t.Helper()
	h, e := hart.New(c)
	if h == nil || e != api.OK {
		t.Fatalf("P7: New(%+v) = %v, %d", c, h, e)
	}
	image, line, e := hart.Assemble(source)
	if e != api.OK {
		t.Fatalf("P6: line %d of %q: %d", line, source, e)
	}
	h.Poke(c.Pc, image)
	return h
}

// ticks does n of them in which nothing is stalled.
func ticks(h *hart.Hart, n int) api.State {
	for range n {
		h.Tick(false, false)
	}
	return h.Look()
}

func wantPeek(t *testing.T, h *hart.Hart, addr uint32, want string) {
	t.Helper()
	if got, e := h.Peek(addr, len(want)); got != want || e != api.OK {
		t.Errorf("P7: Peek(%d, %d) = %x, %d, want %x", addr, len(want), got, e, want)
	}
}

func TestNewOfEveryLineSize(t *testing.T) {
	sizes := []int{4, 8, 16, 32, 64}
	for line := -130; line <= 130; line++ {
		h, e := hart.New(api.Config{Line: line})
		if slices.Contains(sizes, line) != (h != nil && e == api.OK) || e != api.OK && (h != nil || e != api.ErrConfig) {
			t.Errorf("P7: New of line size %d = %v, %d", line, h, e)
		}
	}
	for _, line := range []int{math.MinInt, -1 << 32, 256, 1<<32 + 4, 1<<32 + 64, 1 << 62, math.MaxInt} {
		if h, e := hart.New(api.Config{Line: line}); h != nil || e != api.ErrConfig {
			t.Errorf("P1, P7: New of line size %d = %v, %d", line, h, e)
		}
	}
	for _, line := range sizes {
		for _, pc := range []uint32{1, 3, 5, 63, 1<<31 + 1, top} {
			if h, e := hart.New(api.Config{Line: line, Pc: pc}); h != nil || e != api.ErrConfig {
				t.Errorf("P7: New of PC %d = %v, %d", pc, h, e)
			}
		}
		for _, pc := range []uint32{0, 2, 4, 62, 1 << 31, top - 1} {
			if h, e := hart.New(api.Config{Line: line, Pc: pc}); h == nil || e != api.OK {
				t.Errorf("P7: New of PC %d = %v, %d", pc, h, e)
			}
		}
	}
}

func TestNewMachineStandsAsItWasConfigured(t *testing.T) {
	for _, fuse := range []bool{false, true} {
		c := api.Config{Line: 16, Pc: top - 1, Fuse: fuse}
		for n := range c.Regs {
			c.Regs[n] = top - uint32(n)*7
		}
		h, _ := hart.New(c)
		want := api.State{Pc: top - 1, Regs: c.Regs}
		want.Regs[0] = 0
		if got := h.Look(); got != want {
			t.Errorf("P7: Look() = %+v, want %+v", got, want)
		}
		if g := h.Groups(); len(g) != 0 {
			t.Errorf("P7: Groups() = %v, want none", g)
		}
		for _, addr := range []uint32{0, 1, 4095, 1 << 31, top - 5} {
			wantPeek(t, h, addr, strings.Repeat("\x00", 4096))
		}
	}
}

func TestRegisterNoughtStaysNought(t *testing.T) {
	for _, source := range []string{"addi x0, x1, 1", "lui x0, 5", "auipc x0, 5", "jal x0, 8", "jalr x0, x1, 0", "lw x0, 0(x1)", "mul x0, x1, x1", "c.addi x0, x0, 1", "c.add x0, x0, x1", "slli x0, x1, 1"} {
		c := api.Config{Line: 8}
		c.Regs[0], c.Regs[1] = 77, 2
		if s := ticks(machineOf(t, c, source), 1); s.Done != 1 || s.Regs[0] != 0 || s.Regs[1] != 2 {
			t.Errorf("P7: %s: %+v", source, s)
		}
	}
}

func TestPokeAndPeekAnywhere(t *testing.T) {
	r := rand.New(rand.NewSource(2))
	for range 60 {
		h, _ := hart.New(api.Config{Line: 4})
		told := newPlain(api.Config{}, nil)
		base := []uint32{0, top, 255, 4096, 65535, 1 << 31, r.Uint32()}[r.Intn(7)]
		for range 20 {
			addr := base + uint32(r.Intn(10000)) - 5000
			text := make([]byte, []int{0, 1, 2, 3, 255, 256, 257, 5000}[r.Intn(8)])
			r.Read(text)
			h.Poke(addr, string(text))
			told.poke(addr, string(text))
			for _, n := range []int{0, 1, 2, 4096, r.Intn(4097)} {
				from := addr + uint32(r.Intn(6000)) - 3000
				wantPeek(t, h, from, told.peek(from, n))
			}
		}
	}
}

func TestPeekAroundTheEnd(t *testing.T) {
	h, _ := hart.New(api.Config{Line: 64})
	h.Poke(top-1, "abcdef")
	wantPeek(t, h, top-2, "\x00abcdef\x00")
	wantPeek(t, h, top, "bcde")
	wantPeek(t, h, 0, "cdef\x00")
	wantPeek(t, h, top-4095+3, strings.Repeat("\x00", 4091)+"abcde")
	h.Poke(0, "")
	wantPeek(t, h, 0, "cdef\x00")
}

func TestPeekRange(t *testing.T) {
	h, _ := hart.New(api.Config{Line: 64})
	h.Poke(0, strings.Repeat("x", 5000))
	for _, n := range []int{math.MinInt, -1 << 32, -4096, -1, 4097, 4098, 1 << 32, math.MaxInt} {
		if s, e := h.Peek(0, n); s != "" || e != api.ErrRange {
			t.Errorf("P1, P7: Peek(0, %d) = %d bytes, %d", n, len(s), e)
		}
	}
	for _, n := range []int{0, 1, 4095, 4096} {
		wantPeek(t, h, 0, strings.Repeat("x", n))
	}
}

// TestPokeBetweenTicks: what was fetched of the old bytes is not done.
func TestPokeBetweenTicks(t *testing.T) {
	h := machineOf(t, api.Config{Line: 32, Pc: 4}, strings.Repeat("addi x1, x1, 1\n", 20))
	ticks(h, 2)
	h.Tick(true, false)
	if s := h.Look(); s.Queue == 0 || s.Done != 3 || s.Pc != 16 {
		t.Fatalf("P7: ahead of Poke: %+v", s)
	}
	image, _, _ := hart.Assemble("addi x2, x2, 1")
	h.Poke(16, image)
	if s := h.Look(); s.Queue != 0 || s.Done != 3 || s.Pc != 16 || s.Regs[1] != 3 {
		t.Errorf("P7: behind Poke: %+v", s)
	}
	h.Tick(true, false)
	if s := h.Look(); s.Done != 3 {
		t.Errorf("P7: done out of an empty buffer: %+v", s)
	}
	if s := ticks(h, 1); s.Done != 4 || s.Regs[2] != 1 || s.Regs[1] != 3 || s.Queue != 6 {
		t.Errorf("P7: a tick behind Poke: %+v", s)
	}
	h.Tick(false, true)
	h.Poke(1<<20, "")
	if s := h.Look(); s.Queue != 0 {
		t.Errorf("P7: behind Poke of nothing, far away: %+v", s)
	}
	if s := ticks(h, 1); s.Done != 5 || s.Queue != 4 {
		t.Errorf("P7: AHEAD is not PC behind Poke: %+v", s)
	}
}

// TestPokeOfWhatHalted: it stays so, whatever stands at its PC now.
func TestPokeOfWhatHalted(t *testing.T) {
	h := machineOf(t, api.Config{Line: 16}, "fence\necall")
	before := ticks(h, 3)
	if !before.Halted || before.Queue != 14 {
		t.Fatalf("P7: %+v", before)
	}
	h.Poke(4, "\x01\x00\x01\x00")
	want := before
	want.Queue = 0
	if s := h.Look(); s != want {
		t.Errorf("P7: behind Poke: %+v, want %+v", s, want)
	}
	if s := ticks(h, 3); s != want {
		t.Errorf("P7: ticks behind that: %+v, want %+v", s, want)
	}
}

func TestGroupsCountToSixteen(t *testing.T) {
	h := machineOf(t, api.Config{Line: 64, Pc: 2}, strings.Repeat("addi x1, x1, 1\nc.addi x1, x1, 1\n", 40))
	var all []api.Group
	pc := uint32(2)
	for n := range 60 {
		want := all[max(0, len(all)-16):]
		if g := h.Groups(); !slices.Equal(g, want) {
			t.Fatalf("P7: behind %d groups: %v, want %v", n, g, want)
		}
		all = append(all, api.Group{Pc: pc, Count: 1})
		pc += uint32(4 - n%2*2)
		ticks(h, 1)
	}
}

// TestGroupsAreNewMemory writes over every list that came out, its spare room too.
func TestGroupsAreNewMemory(t *testing.T) {
	h := machineOf(t, api.Config{Line: 64}, strings.Repeat("fence\n", 60))
	spoil := func(list []api.Group, with uint32) {
		for k := range list[:cap(list)] {
			list[:cap(list)][k] = api.Group{Pc: with, Count: -1}
		}
	}
	var kept [][]api.Group
	for n := range 50 {
		for range 2 {
			list := h.Groups()
			least := max(0, n-16)
			if len(list) != n-least {
				t.Fatalf("P2: behind %d groups: %v", n, list)
			}
			for k, g := range list {
				if g != (api.Group{Pc: uint32(4 * (least + k)), Count: 1}) {
					t.Fatalf("P2: behind %d groups: %v", n, list)
				}
			}
			spoil(list, uint32(len(kept)))
			kept = append(kept, list)
		}
		ticks(h, 1)
	}
	for n, list := range kept {
		for _, g := range list[:cap(list)] {
			if g != (api.Group{Pc: uint32(n), Count: -1}) {
				t.Fatalf("P2: list %d was changed: %v", n, list)
			}
		}
	}
}

// TestStatesAreValues: what Look gave, or New was given, is not the machine's own.
func TestStatesAreValues(t *testing.T) {
	c := api.Config{Line: 4}
	c.Regs[1] = 5
	h := machineOf(t, c, "addi x1, x1, 1\naddi x1, x1, 1")
	c.Regs[1] = 100
	s := h.Look()
	s.Regs[1], s.Pc = 200, 300
	if s := ticks(h, 2); s.Regs[1] != 7 || s.Pc != 8 {
		t.Errorf("P2: %+v", s)
	}
}

// TestMachinesSideBySide: each alone, then two in turn, then many at once.
func TestMachinesSideBySide(t *testing.T) {
	source := "a: addi x1, x1, 1\nslli x3, x1, 3\nsrli x3, x3, 1\nsw x3, 256(x1)\nlw x4, 255(x1)\nbne x1, x2, a\necall"
	made := func(line int, fuse bool, last uint32) *hart.Hart {
		c := api.Config{Line: line, Fuse: fuse}
		c.Regs[2] = last
		return machineOf(t, c, source)
	}
	one, two := made(4, false, 9), made(64, true, 5)
	var alone, other []api.State
	for range 90 {
		alone = append(alone, ticks(one, 1))
	}
	for range 90 {
		other = append(other, ticks(two, 1))
	}
	three, four := made(4, false, 9), made(64, true, 5)
	for k := range 90 {
		if ticks(three, 1) != alone[k] || ticks(four, 1) != other[k] {
			t.Fatalf("P2: behind %d ticks: %+v, %+v", k+1, three.Look(), four.Look())
		}
		three.Groups()
		four.Peek(0, 100)
	}
	if p, _ := three.Peek(200, 200); p == strings.Repeat("\x00", 200) {
		t.Errorf("P7: nothing was stored")
	}
	if !slices.Equal(one.Groups(), three.Groups()) || !slices.Equal(two.Groups(), four.Groups()) || slices.Equal(one.Groups(), two.Groups()) {
		t.Errorf("P2: the groups %v, %v, %v, %v", one.Groups(), two.Groups(), three.Groups(), four.Groups())
	}
	for _, name := range []string{"first", "second", "third", "fourth"} {
		t.Run(name, func(t *testing.T) {
			t.Parallel()
			h := made(4, false, 9)
			for k := range 90 {
				if s := ticks(h, 1); s != alone[k] {
					t.Fatalf("P2: behind %d ticks: %+v, want %+v", k+1, s, alone[k])
				}
			}
		})
	}
}

// TestMachinesHaveTheirCallsAlone: what is exported stays as it is, whatever the machine is made of.
func TestMachinesHaveTheirCallsAlone(t *testing.T) {
	kind := reflect.TypeFor[*hart.Hart]()
	var names []string
	for n := range kind.NumMethod() {
		names = append(names, kind.Method(n).Name)
	}
	if want := []string{"Groups", "Look", "Peek", "Poke", "Tick"}; !slices.Equal(names, want) {
		t.Errorf("methods %v, want %v", names, want)
	}
	for n := range kind.Elem().NumField() {
		if f := kind.Elem().Field(n); f.IsExported() {
			t.Errorf("the field %s is exported", f.Name)
		}
	}
}

// TestNoBytesPanic runs whatever bytes there are, as they come.
func TestNoBytesPanic(t *testing.T) {
	r := rand.New(rand.NewSource(3))
	for range 3000 {
		c := api.Config{Line: 4 << r.Intn(5), Pc: r.Uint32() &^ 1, Fuse: r.Intn(2) == 0}
		for n := range c.Regs {
			c.Regs[n] = r.Uint32()
		}
		h, _ := hart.New(c)
		bytes := make([]byte, 200)
		r.Read(bytes)
		h.Poke(c.Pc, string(bytes))
		for range 20 {
			h.Tick(r.Intn(4) == 0, r.Intn(4) == 0)
		}
		if s := h.Look(); s.Regs[0] != 0 || s.Halted != (s.Cause != 0) || s.Queue > 48 || s.Pc%2 != 0 {
			t.Fatalf("P7: %x: %+v", bytes, s)
		}
	}
}

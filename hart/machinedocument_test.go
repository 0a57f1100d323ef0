package hart_test

import (
	"math/big"

	"hart/api"
)

// What the document says of instructions, steps and ticks, told a second time: numbers without bounds in the place of those of 32 bits, memory byte by byte, and a buffer that is no list, but the stretch from PC to AHEAD.

// plain is a processor that does one step after the other.
type plain struct {
	pc    uint32
	regs  [32]uint32
	bytes map[uint32]byte
	cause int
	done  int
	words *dictionary
}

// dictionary keeps what the pictures told, since asking them takes long.
type dictionary struct {
	entries []entry
	shorts  []short
	longs   map[uint32]api.Inst
	parcels map[uint16]api.Inst
}

func newDictionary() *dictionary {
	return &dictionary{entries(), shorts(), map[uint32]api.Inst{}, map[uint16]api.Inst{}}
}

// kept asks once for each.
func kept[K comparable](known map[K]api.Inst, key K, ask func() api.Inst) api.Inst {
	i, found := known[key]
	if !found {
		i = ask()
		known[key] = i
	}
	return i
}

// long tells no Op, if it is illegal; short likewise.
func (d *dictionary) long(w uint32) api.Inst {
	return kept(d.longs, w, func() api.Inst { i, _ := instOf(d.entries, w); return i })
}

func (d *dictionary) short(p uint16) api.Inst {
	return kept(d.parcels, p, func() api.Inst { i, _ := shortOf(d.shorts, p); return i })
}

func newPlain(c api.Config, words *dictionary) *plain {
	p := &plain{pc: c.Pc, regs: c.Regs, bytes: map[uint32]byte{}, words: words}
	p.regs[0] = 0
	return p
}

func (p *plain) poke(addr uint32, bytes string) {
	for k := range len(bytes) {
		p.bytes[addr+uint32(k)] = bytes[k]
	}
}

func (p *plain) peek(addr uint32, n int) string {
	out := make([]byte, n)
	for k := range out {
		out[k] = p.bytes[addr+uint32(k)]
	}
	return string(out)
}

// number is the one of n bytes at an address, the lowest byte first.
func (p *plain) number(addr uint32, n int) uint32 {
	out := uint32(0)
	for k := n - 1; k >= 0; k-- {
		out = out*256 + uint32(p.bytes[addr+uint32(k)])
	}
	return out
}

// at tells the instruction at an address and how long it is; no Op, if it is illegal.
func (p *plain) at(addr uint32) (i api.Inst, long uint32) {
	parcel := uint16(p.number(addr, 2))
	switch {
	case parcel%4 != 3:
		return p.words.short(parcel), 2
	case parcel%32 == 31:
		return api.Inst{}, 2
	}
	return p.words.long(p.number(addr, 4)), 4
}

// step does the instruction at PC, unless it halts or has halted.
func (p *plain) step() {
	i, long := p.at(p.pc)
	switch {
	case p.cause != 0:
	case i.Op == 0:
		p.cause = api.Illegal
	case i.Op == api.Ecall:
		p.cause = api.Call
	case i.Op == api.Ebreak:
		p.cause = api.Break
	default:
		p.does(i, long)
		p.regs[0] = 0
		p.done++
	}
}

func (p *plain) does(i api.Inst, long uint32) {
	a, b, imm := p.regs[i.Rs1], p.regs[i.Rs2], uint32(i.Imm)
	here, next := p.pc, p.pc+long
	p.pc = next
	switch {
	case i.Op == api.Jal:
		p.regs[i.Rd], p.pc = next, here+imm
	case i.Op == api.Jalr:
		p.regs[i.Rd], p.pc = next, (a+imm)/2*2
	case i.Op >= api.Beq && i.Op <= api.Bgeu:
		if holds(i.Op, a, b) {
			p.pc = here + imm
		}
	case i.Op >= api.Sb && i.Op <= api.Sw:
		for k := range uint32(1) << (i.Op - api.Sb) {
			p.bytes[a+imm+k] = byte(b >> (8 * k))
		}
	case i.Op == api.Lb:
		p.regs[i.Rd] = low(withSign(p.number(a+imm, 1), 8))
	case i.Op == api.Lh:
		p.regs[i.Rd] = low(withSign(p.number(a+imm, 2), 16))
	case i.Op == api.Lw:
		p.regs[i.Rd] = p.number(a+imm, 4)
	case i.Op == api.Lbu:
		p.regs[i.Rd] = p.number(a+imm, 1)
	case i.Op == api.Lhu:
		p.regs[i.Rd] = p.number(a+imm, 2)
	case i.Op == api.Lui:
		p.regs[i.Rd] = imm * 4096
	case i.Op == api.Auipc:
		p.regs[i.Rd] = here + imm*4096
	case i.Op >= api.Addi && i.Op <= api.Srai:
		p.regs[i.Rd] = made(withRegister(i.Op), a, imm)
	case i.Op != api.Fence:
		p.regs[i.Rd] = made(i.Op, a, b)
	}
}

// withRegister tells the Op that does with a register what this one does with Imm.
func withRegister(op int) int {
	return map[int]int{api.Addi: api.Add, api.Slti: api.Slt, api.Sltiu: api.Sltu, api.Xori: api.Xor, api.Ori: api.Or, api.Andi: api.And, api.Slli: api.Sll, api.Srli: api.Srl, api.Srai: api.Sra}[op]
}

// withSign reads so many bits as a number with its sign.
func withSign(n uint32, bits uint) *big.Int {
	out := big.NewInt(int64(n))
	if out.Bit(int(bits)-1) == 1 {
		out.Sub(out, power(bits))
	}
	return out
}

func without(n uint32) *big.Int { return big.NewInt(int64(n)) }

func power(n uint) *big.Int { return new(big.Int).Lsh(big.NewInt(1), n) }

// low tells the lowest 32 bits, high those above them.
func low(n *big.Int) uint32 { return uint32(new(big.Int).Mod(n, power(32)).Uint64()) }

func high(n *big.Int) uint32 { return low(new(big.Int).Rsh(n, 32)) }

func holds(op int, a, b uint32) bool {
	signed, unsigned := withSign(a, 32).Cmp(withSign(b, 32)), without(a).Cmp(without(b))
	return map[int]bool{api.Beq: unsigned == 0, api.Bne: unsigned != 0, api.Blt: signed < 0, api.Bge: signed >= 0, api.Bltu: unsigned < 0, api.Bgeu: unsigned >= 0}[op]
}

// made is what Rd becomes of two numbers.
func made(op int, a, b uint32) uint32 {
	sa, sb, ua, ub := withSign(a, 32), withSign(b, 32), without(a), without(b)
	far := power(uint(b % 32))
	switch op {
	case api.Slt:
		return map[bool]uint32{true: 1}[sa.Cmp(sb) < 0]
	case api.Sltu:
		return map[bool]uint32{true: 1}[ua.Cmp(ub) < 0]
	case api.Sll:
		return low(ua.Mul(ua, far))
	case api.Srl:
		return low(ua.Div(ua, far))
	case api.Sra:
		return low(sa.Div(sa, far)) // Div rounds down
	}
	out := new(big.Int)
	if factors, found := map[int][2]*big.Int{api.Mulh: {sa, sb}, api.Mulhsu: {sa, ub}, api.Mulhu: {ua, ub}}[op]; found {
		return high(out.Mul(factors[0], factors[1]))
	}
	if combine, found := map[int]func(x, y *big.Int) *big.Int{api.Add: out.Add, api.Sub: out.Sub, api.Xor: out.Xor, api.Or: out.Or, api.And: out.And, api.Mul: out.Mul}[op]; found {
		return low(combine(ua, ub))
	}
	return divided(op, a, b)
}

func divided(op int, a, b uint32) uint32 {
	read := without
	if op == api.Div || op == api.Rem {
		read = func(n uint32) *big.Int { return withSign(n, 32) }
	}
	isRest := op == api.Rem || op == api.Remu
	switch {
	case b == 0 && isRest:
		return a
	case b == 0:
		return 4294967295
	}
	// QuoRem rounds towards 0, and the rest has a's sign.
	whole, rest := new(big.Int).QuoRem(read(a), read(b), new(big.Int))
	if isRest {
		return low(rest)
	}
	return low(whole)
}

// ticking is a plain processor that also knows, tick by tick, how much a machine has fetched and does.
type ticking struct {
	*plain
	line   uint32
	fuses  bool
	ahead  uint32
	groups []api.Group
}

func newTicking(c api.Config, words *dictionary) *ticking {
	return &ticking{plain: newPlain(c, words), line: uint32(c.Line), fuses: c.Fuse, ahead: c.Pc}
}

func (t *ticking) poke(addr uint32, bytes string) {
	t.plain.poke(addr, bytes)
	t.ahead = t.pc
}

func (t *ticking) queue() int { return int(t.ahead-t.pc) / 2 }

// whole tells whether the instruction at an address is fetched, all that is needed of it.
func (t *ticking) whole(addr uint32) bool {
	_, long := t.at(addr)
	return t.ahead-addr >= long
}

func (t *ticking) tick(fetch, rest bool) {
	if t.cause != 0 {
		return
	}
	if end := (t.ahead/t.line + 1) * t.line; !fetch && (end-t.pc)/2 <= 48 {
		t.ahead = end
	}
	if rest || !t.whole(t.pc) {
		return
	}
	count := 1
	first, long := t.at(t.pc)
	if t.fuses && t.whole(t.pc+long) {
		if second, _ := t.at(t.pc + long); paired(first, second) {
			count = 2
		}
	}
	t.rest(count)
}

func (t *ticking) rest(count int) {
	from, stored := t.pc, false
	behind := t.pc
	for range count {
		i, long := t.at(t.pc)
		stored = stored || i.Op >= api.Sb && i.Op <= api.Sw
		behind = t.pc + long
		t.step()
	}
	if t.cause != 0 {
		return
	}
	t.groups = append(t.groups, api.Group{Pc: from, Count: count})
	if stored || t.pc != behind {
		t.ahead = t.pc
	}
}

func paired(first, second api.Inst) bool {
	if first.Rd == 0 || second.Rd != first.Rd || second.Rs1 != first.Rd {
		return false
	}
	switch first.Op {
	case api.Lui, api.Auipc:
		return second.Op == api.Addi
	case api.Slli:
		return second.Op == api.Srli
	}
	return false
}

func (t *ticking) lastGroups() []api.Group {
	return t.groups[max(0, len(t.groups)-16):]
}

func (t *ticking) look() api.State {
	return api.State{Pc: t.pc, Halted: t.cause != 0, Cause: t.cause, Done: t.done, Queue: t.queue(), Regs: t.regs}
}

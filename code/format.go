package code

// Format is how an Op's operands lie among the 32 bits.
type Format uint8

const (
	FormatNone Format = iota // of what is no Op
	FormatR
	FormatI
	FormatH
	FormatS
	FormatB
	FormatU
	FormatJ
	FormatN
	FormatFence // uses nothing, as N does, but its other bits are not looked at
)

// Where the registers lie, in every format that uses them.
const (
	registers    = 32
	registerMask = registers - 1
	rdAt         = 7
	rs1At        = 15
	rs2At        = 20
)

// Which bits tell the Op.
const (
	opcodeBits = 0x0000007f
	f3Bits     = 0x00007000
	f7Bits     = 0xfe000000
	allBits    = 0xffffffff
)

// span is what Imm may be.
type span struct {
	least, most int
	even        bool
}

// piece is a run of Imm's bits: count of them, the lowest being Imm's bit from, which lies at bit at.
type piece struct {
	from, count, at uint8
}

// layout is what a format uses. Pieces that are not needed count 0 bits.
type layout struct {
	rd, rs1, rs2 bool
	imm          span
	pieces       [4]piece
}

// layoutOf serves both directions, so that what is read is always what was written.
func layoutOf(f Format) layout {
	switch f {
	case FormatR:
		return layout{rd: true, rs1: true, rs2: true}
	case FormatI:
		return layout{rd: true, rs1: true, imm: span{-2048, 2047, false}, pieces: [4]piece{{0, 12, 20}}}
	case FormatH:
		return layout{rd: true, rs1: true, imm: span{0, 31, false}, pieces: [4]piece{{0, 5, 20}}}
	case FormatS:
		return layout{rs1: true, rs2: true, imm: span{-2048, 2047, false}, pieces: [4]piece{{5, 7, 25}, {0, 5, 7}}}
	case FormatB:
		return layout{rs1: true, rs2: true, imm: span{-4096, 4094, true}, pieces: [4]piece{{12, 1, 31}, {5, 6, 25}, {1, 4, 8}, {11, 1, 7}}}
	case FormatU:
		return layout{rd: true, imm: span{0, 1048575, false}, pieces: [4]piece{{0, 20, 12}}}
	case FormatJ:
		return layout{rd: true, imm: span{-1048576, 1048574, true}, pieces: [4]piece{{20, 1, 31}, {1, 10, 21}, {11, 1, 20}, {12, 8, 12}}}
	}
	return layout{}
}

// tellingBits are those that are the same in every instruction of an Op of this format.
func tellingBits(f Format) uint32 {
	switch f {
	case FormatU, FormatJ:
		return opcodeBits
	case FormatI, FormatS, FormatB, FormatFence:
		return opcodeBits | f3Bits
	case FormatR, FormatH:
		return opcodeBits | f3Bits | f7Bits
	}
	return allBits
}

func (s span) holds(n int) bool {
	return n >= s.least && n <= s.most && !(s.even && n&1 != 0)
}

// signed gives back the sign that was lost among the bits: a span below 0 is as wide below it as above.
func (s span) signed(n int) int {
	if n > s.most {
		return n + 2*s.least
	}
	return n
}

// wrapped tells a number below 0 without its sign, if the span has none (a short lui's Imm has one, its long one's has not).
func (s span) wrapped(n int) int {
	if n < s.least {
		return n + s.most + 1
	}
	return n
}

func (p piece) mask() uint32 {
	return 1<<p.count - 1
}

func (p piece) put(imm uint32) uint32 {
	return (imm >> p.from & p.mask()) << p.at
}

func (p piece) take(w uint32) uint32 {
	return (w >> p.at & p.mask()) << p.from
}

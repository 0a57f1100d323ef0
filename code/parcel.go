package code

import "math/bits"

// place is where a parcel has a register, or which one it is without being told.
type place uint8

const (
	isNought place = iota // of a register that is not used too
	isOne
	isTwo
	highFive
	lowFive
	highThree
	lowThree
)

// field is a run of a parcel's bits; the register is plus more than they tell.
type field struct {
	at, count uint8
	plus      int
}

func fieldOf(p place) field {
	switch p {
	case isOne:
		return field{plus: 1}
	case isTwo:
		return field{plus: 2}
	case highFive:
		return field{at: 7, count: 5}
	case lowFive:
		return field{at: 2, count: 5}
	case highThree:
		return field{at: 7, count: 3, plus: 8}
	case lowThree:
		return field{at: 2, count: 3, plus: 8}
	}
	return field{}
}

func (f field) mask() uint16 {
	return 1<<f.count - 1
}

func (p place) take(parcel uint16) int {
	f := fieldOf(p)
	return int(parcel>>f.at&f.mask()) + f.plus
}

// put cuts off what the place has no room for: take tells whether the register is still the same.
func (p place) put(register int) uint16 {
	f := fieldOf(p)
	return (uint16(register-f.plus) & f.mask()) << f.at
}

// spread is how Imm's bits lie in a parcel.
type spread uint8

const (
	spreadNone spread = iota
	spreadFive
	spreadSix
	spreadAddress
	spreadWord
	spreadLoad
	spreadStore
	spreadStack
	spreadBranch
	spreadJump
)

// spreadLayout is Imm's pieces, and whether the highest bit they have is repeated above it.
type spreadLayout struct {
	signed bool
	pieces [8]piece
}

func spreadOf(s spread) spreadLayout {
	switch s {
	case spreadFive:
		return spreadLayout{pieces: [8]piece{{0, 5, 2}}}
	case spreadSix:
		return spreadLayout{signed: true, pieces: [8]piece{{5, 1, 12}, {0, 5, 2}}}
	case spreadAddress:
		return spreadLayout{pieces: [8]piece{{4, 2, 11}, {6, 4, 7}, {2, 1, 6}, {3, 1, 5}}}
	case spreadWord:
		return spreadLayout{pieces: [8]piece{{3, 3, 10}, {2, 1, 6}, {6, 1, 5}}}
	case spreadLoad:
		return spreadLayout{pieces: [8]piece{{5, 1, 12}, {2, 3, 4}, {6, 2, 2}}}
	case spreadStore:
		return spreadLayout{pieces: [8]piece{{2, 4, 9}, {6, 2, 7}}}
	case spreadStack:
		return spreadLayout{signed: true, pieces: [8]piece{{9, 1, 12}, {4, 1, 6}, {6, 1, 5}, {7, 2, 3}, {5, 1, 2}}}
	case spreadBranch:
		return spreadLayout{signed: true, pieces: [8]piece{{8, 1, 12}, {3, 2, 10}, {6, 2, 5}, {1, 2, 3}, {5, 1, 2}}}
	case spreadJump:
		return spreadLayout{signed: true, pieces: [8]piece{{11, 1, 12}, {4, 1, 11}, {8, 2, 9}, {10, 1, 8}, {6, 1, 7}, {7, 1, 6}, {1, 3, 3}, {5, 1, 2}}}
	}
	return spreadLayout{}
}

func (s spread) take(parcel uint16) int {
	l := spreadOf(s)
	n := l.gather(uint32(parcel))
	if !l.signed {
		return int(n)
	}
	unused := 32 - bits.Len32(l.gather(allBits))
	return int(int32(n<<unused) >> unused)
}

func (l spreadLayout) gather(w uint32) uint32 {
	var n uint32
	for _, p := range l.pieces {
		n |= p.take(w)
	}
	return n
}

// put cuts off what the parcel has no room for: take tells whether Imm is still the same.
func (s spread) put(imm int) uint16 {
	var parcel uint32
	for _, p := range spreadOf(s).pieces {
		parcel |= p.put(uint32(imm))
	}
	return uint16(parcel)
}

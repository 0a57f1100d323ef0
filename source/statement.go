package source

import (
	"hart/api"
	"hart/code"
)

// statement is what a line asks to be put into the image.
type statement interface {
	// encode tells its bytes, or that a number is out of its range, or that there is no short instruction.
	encode() ([]byte, error)
}

// data are numbers of some bytes each.
type data struct {
	width   int
	numbers []int
}

// space is a count of bytes of 0.
type space int

// instruction has a label, if its distance is not told as a number.
type instruction struct {
	api.Inst
	short bool
	label string
}

func (d data) encode() ([]byte, error) {
	var out []byte
	for _, n := range d.numbers {
		if n < -1<<(8*d.width-1) || n >= 1<<(8*d.width) {
			return nil, ErrRange
		}
		out = append(out, lowestFirst(n, d.width)...)
	}
	return out, nil
}

func (s space) encode() ([]byte, error) {
	if s < 0 || s > api.MaxImage {
		return nil, ErrRange
	}
	return make([]byte, s), nil
}

// encode leaves room, if the distance is not known yet.
func (i instruction) encode() ([]byte, error) {
	if i.label != "" {
		return make([]byte, i.length()), nil
	}
	// The Op and the registers were read as such, so only Imm can be wrong.
	if !code.Legal(i.Inst) {
		return nil, ErrRange
	}
	if !i.short {
		w, _ := code.Encode(i.Inst)
		return lowestFirst(int(w), i.length()), nil
	}
	parcel, err := code.Compress(i.Inst)
	if err != api.OK {
		return nil, ErrNone
	}
	return lowestFirst(int(parcel), i.length()), nil
}

func (i instruction) length() int {
	if i.short {
		return 2
	}
	return 4
}

// aimed is the same with the distance from its address to its label.
func (i instruction) aimed(at int, labels map[string]int) (instruction, error) {
	to, ok := labels[i.label]
	if !ok {
		return instruction{}, ErrLabel
	}
	i.Imm, i.label = to-at, ""
	return i, nil
}

func lowestFirst(n, width int) []byte {
	out := make([]byte, width)
	for k := range out {
		out[k] = byte(n >> (8 * k))
	}
	return out
}

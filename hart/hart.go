// Package hart: a small processor that fetches by lines, and what is said to it: see DOC.md.
package hart

import (
	"errors"

	"hart/api"
	"hart/code"
	"hart/machine"
	"hart/source"
)

// Hart is a machine.
type Hart struct {
	machine *machine.Machine
}

// Legal tells whether an instruction is legal (P3).
func Legal(i api.Inst) bool { return code.Legal(i) }

// Encode tells an instruction's bits (P3).
func Encode(i api.Inst) (uint32, api.Errno) { return code.Encode(i) }

// Decode tells the instruction of some bits (P3).
func Decode(w uint32) (api.Inst, api.Errno) { return code.Decode(w) }

// Expand tells what a short instruction is (P4).
func Expand(p uint16) (api.Inst, api.Errno) { return code.Expand(p) }

// Compress tells the short instruction that is the same (P4).
func Compress(i api.Inst) (uint16, api.Errno) { return code.Compress(i) }

// Print tells an instruction in words (P5).
func Print(i api.Inst) (string, api.Errno) { return source.Print(i) }

// Assemble tells the bytes of a source (P6).
func Assemble(text string) (string, int, api.Errno) {
	image, err := source.Assemble(text)
	return image, lineOf(err), errnoOf(err)
}

// lineOf tells 0, if it was no line's error.
func lineOf(err error) int {
	var at source.LineError
	if errors.As(err, &at) {
		return at.Line
	}
	return 0
}

func errnoOf(err error) api.Errno {
	switch {
	case err == nil:
		return api.OK
	case errors.Is(err, source.ErrSyntax):
		return api.ErrSyntax
	case errors.Is(err, source.ErrLabel):
		return api.ErrLabel
	case errors.Is(err, source.ErrRange):
		return api.ErrRange
	case errors.Is(err, source.ErrNone):
		return api.ErrNone
	}
	return api.ErrLong
}

// New makes a machine (P7).
func New(c api.Config) (*Hart, api.Errno) {
	m, err := machine.New(c)
	if err != api.OK {
		return nil, err
	}
	return &Hart{m}, api.OK
}

// Poke puts bytes into memory (P7).
func (h *Hart) Poke(addr uint32, bytes string) { h.machine.Poke(addr, bytes) }

// Peek tells bytes of memory (P7).
func (h *Hart) Peek(addr uint32, n int) (string, api.Errno) { return h.machine.Peek(addr, n) }

// Tick is a tick (P7).
func (h *Hart) Tick(fetch bool, rest bool) { h.machine.Tick(fetch, rest) }

// Look tells how the machine stands (P7).
func (h *Hart) Look() api.State { return h.machine.Look() }

// Groups tells the last groups (P7).
func (h *Hart) Groups() []api.Group { return h.machine.Groups() }

package source

import (
	"strconv"
	"strings"

	"hart/api"
)

const (
	blanks    = " \t"
	registers = 32
	maxDigits = 10
)

func trim(text string) string {
	return strings.Trim(text, blanks)
}

// read puts what an operand's text tells into its place in the instruction.
func (o operand) read(text string, i *instruction) error {
	var err error
	switch o {
	case rd:
		i.Rd, err = readRegister(text)
	case rs1:
		i.Rs1, err = readRegister(text)
	case rs2:
		i.Rs2, err = readRegister(text)
	case number:
		i.Imm, err = readNumber(text)
	case address:
		i.Imm, i.Rs1, err = readAddress(text)
	case target:
		i.Imm, i.label, err = readTarget(text)
	}
	return err
}

func readRegister(text string) (int, error) {
	for n := range registers {
		if text == registerName(n) {
			return n, nil
		}
	}
	return 0, ErrSyntax
}

// readNumber does not look at the range: maxDigits digits are far within an int, and each place has a range of its own.
func readNumber(text string) (int, error) {
	digits, below := strings.CutPrefix(text, "-")
	base := 10
	if rest, ok := strings.CutPrefix(digits, "0x"); ok {
		digits, base = rest, 16
	}
	n, err := strconv.ParseUint(digits, base, 64)
	if err != nil || len(digits) > maxDigits {
		return 0, ErrSyntax
	}
	if below {
		return -int(n), nil
	}
	return int(n), nil
}

// readAddress tells the number and the register in the brackets behind it.
func readAddress(text string) (int, int, error) {
	outside, inside, _ := strings.Cut(text, "(")
	inside, closed := strings.CutSuffix(inside, ")")
	if !closed {
		return 0, 0, ErrSyntax
	}
	n, err := readNumber(trim(outside))
	if err != nil {
		return 0, 0, err
	}
	register, err := readRegister(trim(inside))
	return n, register, err
}

// readTarget tells a distance, or else the label to which it is.
func readTarget(text string) (int, string, error) {
	if isName(text) {
		return 0, text, nil
	}
	n, err := readNumber(text)
	return n, "", err
}

func isName(text string) bool {
	if text == "" || len(text) > api.MaxName || isDigit(text[0]) {
		return false
	}
	for k := range len(text) {
		if !isLetter(text[k]) && !isDigit(text[k]) {
			return false
		}
	}
	return true
}

func isLetter(c byte) bool {
	return c >= 'a' && c <= 'z' || c >= 'A' && c <= 'Z' || c == '_'
}

func isDigit(c byte) bool {
	return c >= '0' && c <= '9'
}

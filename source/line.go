package source

import (
	"strings"

	"hart/api"
)

// readLine tells a line's label and its statement; an empty label and no statement, if there are none.
func readLine(line string) (string, statement, error) {
	text, _, _ := strings.Cut(line, "#")
	label, text, err := splitLabel(trim(text))
	if err != nil || text == "" {
		return label, nil, err
	}
	s, err := readStatement(text)
	return label, s, err
}

// splitLabel may take any colon for a label's, since no statement has one.
func splitLabel(text string) (string, string, error) {
	label, behind, found := strings.Cut(text, ":")
	if !found {
		return "", text, nil
	}
	if !isName(label) {
		return "", "", ErrSyntax
	}
	return label, trim(behind), nil
}

func readStatement(text string) (statement, error) {
	word, operands := splitStatement(text)
	switch word {
	case ".byte":
		return readData(1, operands)
	case ".half":
		return readData(2, operands)
	case ".word":
		return readData(4, operands)
	case ".space":
		return readSpace(operands)
	}
	return readInstruction(word, operands)
}

// splitStatement tells the word ahead, and what stands between the commas behind it.
func splitStatement(text string) (string, []string) {
	end := strings.IndexAny(text, blanks)
	if end < 0 {
		return text, nil
	}
	operands := strings.Split(text[end:], ",")
	for k := range operands {
		operands[k] = trim(operands[k])
	}
	return text[:end], operands
}

func readData(width int, operands []string) (statement, error) {
	if len(operands) == 0 {
		return nil, ErrSyntax
	}
	d := data{width: width}
	for _, text := range operands {
		n, err := readNumber(text)
		if err != nil {
			return nil, err
		}
		d.numbers = append(d.numbers, n)
	}
	return d, nil
}

func readSpace(operands []string) (statement, error) {
	if len(operands) != 1 {
		return nil, ErrSyntax
	}
	n, err := readNumber(operands[0])
	return space(n), err
}

func readInstruction(word string, operands []string) (statement, error) {
	name, short := strings.CutPrefix(word, "c.")
	op, err := opOf(name)
	if err != nil {
		return nil, err
	}
	kinds := operandsOf(op)
	if len(operands) != len(kinds) {
		return nil, ErrSyntax
	}
	i := instruction{Inst: api.Inst{Op: op}, short: short}
	for k, kind := range kinds {
		if err := kind.read(operands[k], &i); err != nil {
			return nil, err
		}
	}
	return i, nil
}

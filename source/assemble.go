package source

import (
	"strings"

	"hart/api"
)

// program is what the lines read so far have told.
type program struct {
	image  []byte
	labels map[string]int
	gaps   []gap
}

// gap is where an instruction's bytes are missing until all labels are known.
type gap struct {
	line, at int
	instruction
}

// Assemble tells the bytes of a source. What is wrong in a line comes as a LineError.
func Assemble(text string) (string, error) {
	if len(text) > api.MaxSource {
		return "", ErrLong
	}
	p := program{labels: map[string]int{}}
	for k, line := range strings.Split(text, "\n") {
		if err := p.add(k+1, line); err != nil {
			return "", LineError{Line: k + 1, Err: err}
		}
	}
	for _, g := range p.gaps {
		if err := p.fill(g); err != nil {
			return "", LineError{Line: g.line, Err: err}
		}
	}
	return string(p.image), nil
}

// add looks for a line's errors in the order in which they are to be told.
func (p *program) add(line int, text string) error {
	label, s, err := readLine(text)
	if err != nil {
		return err
	}
	if err := p.mark(label); err != nil {
		return err
	}
	if s == nil {
		return nil
	}
	bytes, err := s.encode()
	if err != nil {
		return err
	}
	at := len(p.image)
	if at+len(bytes) > api.MaxImage {
		return ErrLong
	}
	if i, ok := s.(instruction); ok && i.label != "" {
		p.gaps = append(p.gaps, gap{line, at, i})
	}
	p.image = append(p.image, bytes...)
	return nil
}

// mark makes a label, if there is one, the address of what comes next.
func (p *program) mark(label string) error {
	if label == "" {
		return nil
	}
	if _, ok := p.labels[label]; ok {
		return ErrLabel
	}
	p.labels[label] = len(p.image)
	return nil
}

func (p *program) fill(g gap) error {
	i, err := g.aimed(g.at, p.labels)
	if err != nil {
		return err
	}
	bytes, err := i.encode()
	if err != nil {
		return err
	}
	copy(p.image[g.at:], bytes)
	return nil
}

package source

import (
	"errors"
	"strings"
	"testing"

	"hart/api"
)

// whichOf tells which of the package's errors an error is; there must be one alone.
func whichOf(t *testing.T, err error) error {
	t.Helper()
	var found []error
	for _, one := range []error{ErrSyntax, ErrLabel, ErrRange, ErrNone, ErrLong} {
		if errors.Is(err, one) {
			found = append(found, one)
		}
	}
	if len(found) != 1 {
		t.Fatalf("P6: %v is %d of the errors", err, len(found))
	}
	return found[0]
}

func TestALinesErrorWrapsWhatWasWrong(t *testing.T) {
	for text, want := range map[string]LineError{
		"nop":                         {1, ErrSyntax},
		"a:\n\na:":                    {3, ErrLabel},
		"fence\njal x0, a":            {2, ErrLabel},
		"\naddi x1, x1, 2048":         {2, ErrRange},
		"beq x0, x0, a\n.byte 1\na:":  {1, ErrRange},
		"c.fence":                     {1, ErrNone},
		"\n\n\nc.jal x2, a\na:":       {4, ErrNone},
		".space 4096\n# more\nfence ": {3, ErrLong},
	} {
		image, err := Assemble(text)
		var at LineError
		if !errors.As(err, &at) || at.Line != want.Line || image != "" {
			t.Errorf("P6: Assemble(%q) = %x, %v, want line %d", text, image, err, want.Line)
		}
		if which := whichOf(t, err); which != want.Err {
			t.Errorf("P6: Assemble(%q): %v, want %v", text, which, want.Err)
		}
		if said := err.Error(); !strings.Contains(said, want.Err.Error()) || !strings.HasPrefix(said, "line ") {
			t.Errorf("P6: Assemble(%q) says %q", text, said)
		}
	}
}

func TestALongTextIsNoLinesError(t *testing.T) {
	_, err := Assemble(strings.Repeat("#", api.MaxSource+1))
	if which := whichOf(t, err); which != ErrLong || errors.As(err, &LineError{}) {
		t.Errorf("P6: a text that is too long: %v", err)
	}
	if _, err := Assemble(strings.Repeat("#", api.MaxSource)); err != nil {
		t.Errorf("P6: a text as long as may be: %v", err)
	}
}

// TestNamesAreFoundAgain: each Op has a name, and no two have one.
func TestNamesAreFoundAgain(t *testing.T) {
	if n := len(strings.Fields(opNames)); n != api.Ebreak {
		t.Fatalf("P5: %d names", n)
	}
	for op := firstOp; op <= api.Ebreak; op++ {
		if back, err := opOf(nameOf(op)); back != op || err != nil {
			t.Errorf("P5: Op %d is called %q, which is %d, %v", op, nameOf(op), back, err)
		}
	}
}

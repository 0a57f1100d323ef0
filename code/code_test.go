package code

import (
	"math/bits"
	"testing"
)

// TestBitsAreTakenOnce: what tells the Op, the registers and Imm's pieces fill the 32 bits, and no two of them lie on one.
func TestBitsAreTakenOnce(t *testing.T) {
	for f := FormatR; f <= FormatN; f++ {
		l := layoutOf(f)
		taken := tellingBits(f)
		for _, field := range []struct {
			used bool
			at   int
		}{{l.rd, rdAt}, {l.rs1, rs1At}, {l.rs2, rs2At}} {
			if field.used {
				taken = add(t, "P3: format", int(f), taken, registerMask<<field.at)
			}
		}
		for _, p := range l.pieces {
			taken = add(t, "P3: format", int(f), taken, p.put(allBits))
		}
		if taken != allBits {
			t.Errorf("P3: format %d: bits %08x are nothing's", f, ^taken)
		}
	}
}

func add(t *testing.T, what string, number int, taken, more uint32) uint32 {
	t.Helper()
	if taken&more != 0 {
		t.Errorf("%s %d: bits %08x are two things'", what, number, taken&more)
	}
	return taken | more
}

// TestPiecesHoldTheSpan: Imm's pieces have each of its bits once, and as many as its span needs.
func TestPiecesHoldTheSpan(t *testing.T) {
	for f := FormatR; f <= FormatFence; f++ {
		l := layoutOf(f)
		var held uint32
		for _, p := range l.pieces {
			held = add(t, "P3: format", int(f), held, p.take(allBits))
		}
		want := uint32(l.imm.most)
		if l.imm.least < 0 {
			want |= uint32(1) << bits.Len32(want)
		}
		if held != want {
			t.Errorf("P3: format %d: Imm has bits %08x, want %08x", f, held, want)
		}
	}
}

// TestRowsSetOnlyTellingBits: a row with another bit set would never be found again.
func TestRowsSetOnlyTellingBits(t *testing.T) {
	for op := firstOp; op <= lastOp; op++ {
		r := rowOf(op)
		if r.format == FormatNone || r.bits&^tellingBits(r.format) != 0 {
			t.Errorf("P3: Op %d: format %d, bits %08x", op, r.format, r.bits)
		}
		for other := firstOp; other < op; other++ {
			both := tellingBits(r.format) & tellingBits(rowOf(other).format)
			if r.bits&both == rowOf(other).bits&both {
				t.Errorf("P3: Ops %d and %d have bits in common", other, op)
			}
		}
	}
}

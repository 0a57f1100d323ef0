package code

import (
	"math/bits"
	"testing"
)

const parcelBits = 0xffff

// TestParcelBitsAreTakenOnce: mask, registers and Imm fill a parcel, and no two of them lie on one bit, but for a register that is both Rd and Rs1.
func TestParcelBitsAreTakenOnce(t *testing.T) {
	for k := range shortRows {
		r := shortRows[k]
		if r.bits&^r.mask != 0 {
			t.Errorf("P4: row %d: bits %04x are not under its mask", k, r.bits&^r.mask)
		}
		places := []place{r.rd, r.rs1, r.rs2}
		if r.rd == r.rs1 {
			places = places[1:]
		}
		taken := uint32(r.mask)
		for _, p := range places {
			taken = add(t, "P4: row", k, taken, uint32(fieldOf(p).mask()<<fieldOf(p).at))
		}
		for _, p := range spreadOf(r.imm).pieces {
			taken = add(t, "P4: row", k, taken, p.put(allBits))
		}
		if taken != parcelBits {
			t.Errorf("P4: row %d: bits %04x are nothing's", k, taken^parcelBits)
		}
	}
}

// TestSpreadsHaveEachBitOnce: no bit of Imm comes from two of the parcel's, and none between the lowest and the highest is missing.
func TestSpreadsHaveEachBitOnce(t *testing.T) {
	for s := spreadNone; s <= spreadJump; s++ {
		var held uint32
		for _, p := range spreadOf(s).pieces {
			held = add(t, "P4: spread", int(s), held, p.take(allBits))
		}
		if whole := uint32(1)<<bits.Len32(held) - held&-held; held != 0 && held != whole {
			t.Errorf("P4: spread %d: Imm has bits %08x, want %08x", s, held, whole)
		}
	}
}

// TestParcelsAreOfOneRow: what Expand tells must not hang on the order of the rows.
func TestParcelsAreOfOneRow(t *testing.T) {
	for n := range 1 << 16 {
		count := 0
		for k := range shortRows {
			if _, ok := shortRows[k].read(uint16(n)); ok {
				count++
			}
		}
		if count > 1 || count == 1 && n&wideBits == wideBits {
			t.Errorf("P4: %d rows have parcel %04x", count, n)
		}
	}
}

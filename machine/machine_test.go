package machine

import (
	"strings"
	"testing"

	"hart/api"
)

func newMachine(t *testing.T, c api.Config) *Machine {
	t.Helper()
	m, err := New(c)
	if m == nil || err != api.OK {
		t.Fatalf("New(%+v) = %v, %d", c, m, err)
	}
	return m
}

// TestPagesAreMadeWhenWritten: reading and fetching make none, however far they go.
func TestPagesAreMadeWhenWritten(t *testing.T) {
	m := newMachine(t, api.Config{Line: 64, Pc: 1 << 20})
	m.Peek(0, api.MaxPeek)
	m.Poke(5, "")
	m.Tick(false, true)
	if len(m.pages) != 0 {
		t.Errorf("%d pages, and nothing was written", len(m.pages))
	}
	m.Poke(3*pageSize-1, "a")
	m.Poke(3*pageSize-2, "b")
	if len(m.pages) != 1 {
		t.Errorf("%d pages of one", len(m.pages))
	}
	m.Poke(3*pageSize-1, "cd")
	if len(m.pages) != 2 {
		t.Errorf("%d pages of two", len(m.pages))
	}
	m.Poke(1<<32-1, strings.Repeat("e", 2+pageSize))
	if len(m.pages) != 5 {
		t.Errorf("%d pages of five", len(m.pages))
	}
}

// TestLoadsMakeNoPage: but stores do.
func TestLoadsMakeNoPage(t *testing.T) {
	m := newMachine(t, api.Config{Line: 16})
	// lw x1, 1024(x0); sw x1, 1022(x0)
	m.Poke(0, "\x83\x20\x00\x40\x23\x2f\x10\x3e")
	m.Tick(false, false)
	if len(m.pages) != 1 || m.done != 1 {
		t.Errorf("behind a load: %d pages, %d done", len(m.pages), m.done)
	}
	m.Tick(false, false)
	if len(m.pages) != 3 || m.done != 2 {
		t.Errorf("behind a store: %d pages, %d done", len(m.pages), m.done)
	}
}

// TestParcelsHaveTheirAddresses: from PC on, up to AHEAD, around the end of memory too.
func TestParcelsHaveTheirAddresses(t *testing.T) {
	m := newMachine(t, api.Config{Line: 8, Pc: 1<<32 - 6})
	m.Poke(1<<32-6, "\x01\x00\x05\x00\x09\x00\x0d\x00\x11\x00\x15\x00\x19\x00")
	m.Tick(false, true)
	m.Tick(false, true)
	m.Tick(true, false)
	if m.pc != 1<<32-4 || m.ahead != 8 || m.queued() != 6 {
		t.Fatalf("PC %d, AHEAD %d, %d parcels", m.pc, m.ahead, m.queued())
	}
	for k, p := range m.parcels {
		if want := m.pc + uint32(2*k); p.addr != want || p.bits != uint16(m.number(want, 2)) {
			t.Errorf("parcel %d is %+v, want its address to be %d", k, p, want)
		}
	}
}

// TestKeptIsBounded: many ticks make neither the buffer nor the groups grow.
func TestKeptIsBounded(t *testing.T) {
	m := newMachine(t, api.Config{Line: 32})
	m.Poke(0, strings.Repeat("\x01\x00", 2000)+"\x6f\xf0\x1f\x86")
	for k := range 20000 {
		m.Tick(k%3 == 0, k%5 == 0)
		if len(m.parcels) > api.MaxQueue || cap(m.parcels) > 4*api.MaxQueue || len(m.groups) > api.MaxGroups || cap(m.groups) > 4*api.MaxGroups {
			t.Fatalf("behind %d ticks: %d parcels in %d, %d groups in %d", k, len(m.parcels), cap(m.parcels), len(m.groups), cap(m.groups))
		}
	}
	if m.done < 10000 || m.halted() {
		t.Errorf("%d done, cause %d", m.done, m.cause)
	}
}

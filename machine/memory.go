package machine

const pageSize = 256

type page [pageSize]byte

// memory has the pages that were written; the bytes of all others are 0.
type memory struct {
	pages map[uint32]*page
}

func newMemory() memory {
	return memory{pages: map[uint32]*page{}}
}

// pageToWrite makes the page, if it is written for the first time.
func (m *memory) pageToWrite(addr uint32) *page {
	number := addr / pageSize
	p := m.pages[number]
	if p == nil {
		p = new(page)
		m.pages[number] = p
	}
	return p
}

// write puts bytes from addr on, page by page; behind the last address is the first.
func (m *memory) write(addr uint32, bytes string) {
	for len(bytes) > 0 {
		n := copy(m.pageToWrite(addr)[addr%pageSize:], bytes)
		bytes = bytes[n:]
		addr += uint32(n)
	}
}

// read fills into, which must be all 0, with the bytes from addr on.
func (m *memory) read(addr uint32, into []byte) {
	for len(into) > 0 {
		from := int(addr % pageSize)
		n := min(len(into), pageSize-from)
		if p := m.pages[addr/pageSize]; p != nil {
			copy(into[:n], p[from:])
		}
		into = into[n:]
		addr += uint32(n)
	}
}

// number is the one of size bytes, at most 4, at addr, the lowest byte first.
func (m *memory) number(addr uint32, size int) uint32 {
	var bytes [4]byte
	m.read(addr, bytes[:size])
	n := uint32(0)
	for k, b := range bytes {
		n |= uint32(b) << (8 * k)
	}
	return n
}

// putNumber writes the lowest size bytes, at most 4, of n.
func (m *memory) putNumber(addr uint32, size int, n uint32) {
	bytes := [4]byte{byte(n), byte(n >> 8), byte(n >> 16), byte(n >> 24)}
	m.write(addr, string(bytes[:size]))
}

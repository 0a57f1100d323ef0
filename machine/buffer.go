package machine

import (
	"slices"

	"hart/api"
)

// parcelSize is in bytes.
const parcelSize = 2

type parcel struct {
	addr uint32
	bits uint16
}

// buffer has what was fetched and is not done yet; its addresses follow one another, up to ahead.
type buffer struct {
	parcels []parcel
	ahead   uint32
}

func (b *buffer) queued() int {
	return len(b.parcels)
}

func (b *buffer) hasRoom(more int) bool {
	return len(b.parcels)+more <= api.MaxQueue
}

// put adds the parcel that lies at ahead.
func (b *buffer) put(bits uint16) {
	b.parcels = append(b.parcels, parcel{addr: b.ahead, bits: bits})
	b.ahead += parcelSize
}

// take drops the first n parcels.
func (b *buffer) take(n int) {
	b.parcels = slices.Delete(b.parcels, 0, n)
}

// restart forgets what was fetched, and fetches on from pc.
func (b *buffer) restart(pc uint32) {
	b.parcels = b.parcels[:0]
	b.ahead = pc
}

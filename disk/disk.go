// Package disk: sectors, which are written one by one, and are lasting once the disk is synced.
package disk

import (
	"slices"

	"courier/api"
)

// Sector is what is written at once.
type Sector [api.Sector]byte

type write struct {
	sector int
	bytes  Sector
}

// Disk is what is lasting, and the writes that are not yet, the oldest first.
type Disk struct {
	lasting  []byte
	unsynced []write
}

// New makes a disk that holds these bytes.
func New(bytes []byte) *Disk { return &Disk{lasting: slices.Clone(bytes)} }

// Write writes a sector.
func (d *Disk) Write(sector int, bytes Sector) {
	d.unsynced = append(d.unsynced, write{sector, bytes})
}

// Sync makes lasting what is written.
func (d *Disk) Sync() {
	for _, w := range d.unsynced {
		w.apply(d.lasting)
	}
	d.unsynced = d.unsynced[:0]
}

// Image tells what the disk would hold if it failed now, and kept of its unsynced writes those that keep has bits for.
func (d *Disk) Image(keep uint64) []byte {
	image := slices.Clone(d.lasting)
	for i, w := range d.unsynced {
		if keep>>(i%64)&1 == 1 {
			w.apply(image)
		}
	}
	return image
}

func (w write) apply(bytes []byte) { copy(bytes[w.sector*api.Sector:], w.bytes[:]) }

// Package disk: sectors, which are written one by one, and are lasting once the disk is synced, till it fails.
package disk

import (
	"slices"

	"courier/api"
)

// Sector is what is written at once.
type Sector [api.Sector]byte

type write struct {
	sector int
	bytes  Sector
}

// Disk is what is lasting, and the writes that are not yet, the oldest first.
type Disk struct {
	lasting  []byte
	unsynced []write
	armed    int // at which write from now on it fails, 0 if it doesn't
	dead     bool
}

// New makes a disk that holds these bytes.
func New(bytes []byte) *Disk { return &Disk{lasting: slices.Clone(bytes)} }

// Arm has the disk fail at the n-th write from now on, or, with n of 0 or below, not at all.
func (d *Disk) Arm(n int) { d.armed = max(0, n) }

// IsDead tells if the disk has failed.
func (d *Disk) IsDead() bool { return d.dead }

// Write writes a sector. ErrCrash if the disk fails at this write, which then is lost; ErrDead if it has failed already.
func (d *Disk) Write(sector int, bytes Sector) api.Errno {
	switch {
	case d.dead:
		return api.ErrDead
	case d.armed == 1:
		d.dead = true
		return api.ErrCrash
	}
	d.armed = max(0, d.armed-1)
	d.unsynced = append(d.unsynced, write{sector, bytes})
	return api.OK
}

// Sync makes lasting what is written, but not on a disk that has failed.
func (d *Disk) Sync() {
	if d.dead {
		return
	}
	for _, w := range d.unsynced {
		w.apply(d.lasting)
	}
	d.unsynced = d.unsynced[:0]
}

// Image tells what the disk would hold if it failed now, or what it holds since it has failed: of the unsynced writes those are kept that keep has bits for.
func (d *Disk) Image(keep uint64) []byte {
	image := slices.Clone(d.lasting)
	for i, w := range d.unsynced {
		if keep>>(i%64)&1 == 1 {
			w.apply(image)
		}
	}
	return image
}

func (w write) apply(bytes []byte) { copy(bytes[w.sector*api.Sector:], w.bytes[:]) }

// Package store: numbers and records that are lasting. The numbers stand in two head sectors of which the newer one counts, each record in a sector of its own.
package store

import (
	"courier/api"
	"courier/disk"
)

const heads = 2

// Store is one opening of a disk.
type Store struct {
	disk *disk.Disk
	last stamp // of the last write
	head int   // the head sector that counts
}

// Contents is what a disk has when it is opened: the records by their places.
type Contents struct {
	Numbers Numbers
	Records []Record
}

// Open opens a disk, of two sectors or more, which holds these bytes; ErrDisk if they were never written so by a store.
func Open(bytes []byte) (*Store, Contents, api.Errno) {
	newest, at, ok := newestHead(bytes)
	if !ok {
		return nil, Contents{}, api.ErrDisk
	}
	records, ok := readRecords(bytes, newest.stamp.opening)
	if !ok {
		return nil, Contents{}, api.ErrDisk
	}
	// No stamp on the disk is of a later opening than the newest head's, so this number is above them all.
	s := &Store{disk: disk.New(bytes), last: stamp{opening: newest.stamp.opening + 1}, head: at}
	s.WriteNumbers(newest.numbers) // the disk can't fail yet: nobody has armed it
	return s, Contents{newest.numbers, records}, api.OK
}

// newestHead tells the head that counts and its sector, false if there is none.
func newestHead(bytes []byte) (head, int, bool) {
	first, ok := readHead(sectorAt(bytes, 0))
	second, okToo := readHead(sectorAt(bytes, 1))
	switch {
	case !ok || !okToo:
		return head{}, 0, false
	case second.stamp.isNewerThan(first.stamp):
		return second, 1, true
	case first.stamp.isNewerThan(second.stamp):
		return first, 0, true
	}
	// Two writes with one stamp there are not, so this is a disk that was never opened.
	return head{}, 0, first == head{} && second == head{}
}

// readRecords tells what stands behind the heads, false if it was never written by the openings up to the last.
func readRecords(bytes []byte, last uint32) ([]Record, bool) {
	var records []Record
	for sector := heads; sector < len(bytes)/api.Sector; sector++ {
		r, ok := readRecord(sectorAt(bytes, sector), last)
		if !ok {
			return nil, false
		}
		records = append(records, r)
	}
	return records, true
}

func sectorAt(bytes []byte, sector int) disk.Sector {
	return disk.Sector(bytes[sector*api.Sector : (sector+1)*api.Sector])
}

// Opening tells how many times the disk was opened.
func (s *Store) Opening() int { return int(s.last.opening) }

// WriteNumbers makes numbers lasting in place of those that counted, all of them or, if the disk fails, none.
func (s *Store) WriteNumbers(n Numbers) api.Errno {
	s.head = heads - 1 - s.head
	s.last.count++
	return s.write(s.head, sealHead(head{s.last, n}))
}

// WriteRecord makes a record lasting at a place, in place of what stood there, or, if the disk fails, leaves that there.
func (s *Store) WriteRecord(place int, r Record) api.Errno {
	s.last.count++
	return s.write(heads+place, sealRecord(s.last, r))
}

// write syncs behind each write, so that whatever fails later, one write at most is lost.
func (s *Store) write(sector int, bytes disk.Sector) api.Errno {
	errno := s.disk.Write(sector, bytes)
	s.disk.Sync()
	return errno
}

// Arm has the disk fail at the n-th write from now on, or, with n of 0 or below, not at all.
func (s *Store) Arm(n int) { s.disk.Arm(n) }

// IsDead tells if the disk has failed.
func (s *Store) IsDead() bool { return s.disk.IsDead() }

// Image tells what the disk would hold if it failed now, or what it holds since it has failed.
func (s *Store) Image(keep uint64) []byte { return s.disk.Image(keep) }

package store

import (
	"courier/api"
	"courier/disk"
	"courier/number"
)

// stamp is what no two writes of a disk share: the number of the opening that wrote, and the count of the write in it.
type stamp struct {
	opening uint32
	count   uint64
}

// A sector has its stamp at both ends, so that one which is half of another write is told.
const (
	stampSize = 3 * number.Size
	insideEnd = api.Sector - stampSize
)

// mostOpenings are all that the document promises anything of; beyond them an opening would no longer fit into a frame.
const mostOpenings = 1 << 30

func (s stamp) bytes() []byte {
	b := number.Append(nil, s.opening)
	b = number.Append(b, uint32(s.count))
	return number.Append(b, uint32(s.count>>32))
}

func (s stamp) isNewerThan(other stamp) bool {
	if s.opening != other.opening {
		return s.opening > other.opening
	}
	return s.count > other.count
}

// seal makes a sector of what stands inside it.
func seal(s stamp, inside []byte) disk.Sector {
	var b disk.Sector
	copy(b[:], s.bytes())
	copy(b[stampSize:insideEnd], inside)
	copy(b[insideEnd:], s.bytes())
	return b
}

// stampOf reads the stamp at the beginning of a sector; that the sector is whole is told by sealing anew what was read of it.
func stampOf(b disk.Sector) stamp {
	return stamp{
		opening: number.At(b[:]),
		count:   uint64(number.At(b[number.Size:])) | uint64(number.At(b[2*number.Size:]))<<32,
	}
}

// isStamp tells if a write may have had this stamp.
func isStamp(s stamp) bool { return s.opening >= 1 && s.opening <= mostOpenings }

// Numbers is what a head says beside its stamp; each is one that fits into a frame.
type Numbers [api.Streams]int

// head is a head sector; that of a sector which was never written is the zero value.
type head struct {
	stamp   stamp
	numbers Numbers
}

func sealHead(h head) disk.Sector {
	var inside []byte
	for _, n := range h.numbers {
		inside = number.Append(inside, uint32(n))
	}
	return seal(h.stamp, inside)
}

// readHead tells what a head sector says, false if none was ever written so.
func readHead(b disk.Sector) (head, bool) {
	if b == (disk.Sector{}) {
		return head{}, true
	}
	h := head{stamp: stampOf(b)}
	for i := range h.numbers {
		n := number.At(b[stampSize+i*number.Size:])
		if n > api.MaxNumber {
			return head{}, false
		}
		h.numbers[i] = int(n)
	}
	return h, isStamp(h.stamp) && sealHead(h) == b
}

// Record is what a sector behind the heads says; the zero value if it was never written.
type Record struct {
	Stream, Seq int
	Body        string
}

// Where the parts of a record stand inside its sector.
const (
	streamAt = stampSize
	lengthAt = streamAt + 1
	seqAt    = lengthAt + 1
	bodyAt   = seqAt + number.Size
)

func sealRecord(s stamp, r Record) disk.Sector {
	inside := number.Append([]byte{byte(r.Stream), byte(len(r.Body))}, uint32(r.Seq))
	return seal(s, append(inside, r.Body...))
}

// readRecord tells what a record's sector says, false if none was ever written so by the openings up to the last.
func readRecord(b disk.Sector, last uint32) (Record, bool) {
	if b == (disk.Sector{}) {
		return Record{}, true
	}
	length, seq, s := int(b[lengthAt]), number.At(b[seqAt:]), stampOf(b)
	if length > api.MaxBody || b[streamAt] >= api.Streams || seq < 1 || seq > api.MaxNumber {
		return Record{}, false
	}
	r := Record{Stream: int(b[streamAt]), Seq: int(seq), Body: string(b[bodyAt : bodyAt+length])}
	return r, isStamp(s) && s.opening <= last && sealRecord(s, r) == b
}

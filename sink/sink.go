// Package sink: the end that takes frames, and commits their records to a log on its disk.
package sink

import (
	"slices"

	"courier/api"
	"courier/frame"
	"courier/shelf"
	"courier/store"
)

// Sink commits each stream's records in their order, and holds some that came ahead of it.
type Sink struct {
	store   *store.Store
	epoch   int
	streams [api.Streams]stream
	rules   []rule
}

type stream struct {
	log  []string // what is committed: record n stands at n-1
	held shelf.Shelf[int, record]
}

type record struct{ body string }

// rule says what is answered to a frame of a kind; a kind without a rule is not answered.
type rule struct {
	kind   int
	answer func(api.Frame) (api.Frame, api.Errno)
}

// epochAt is where a sink's Epoch stands among the numbers of its disk; the others are noughts.
const epochAt = 0

// Open makes a sink on a disk that holds these bytes (P4).
func Open(disk []byte) (*Sink, api.Errno) {
	if len(disk) != api.SinkDisk {
		return nil, api.ErrDisk
	}
	st, contents, errno := store.Open(disk)
	if errno != api.OK {
		return nil, errno
	}
	s := &Sink{store: st, epoch: contents.Numbers[epochAt]}
	if contents.Numbers != numbersOf(s.epoch) || !s.load(contents.Records) {
		return nil, api.ErrDisk
	}
	s.rules = []rule{
		{api.Hello, s.answerHello},
		{api.Data, s.answerData},
	}
	return s, api.OK
}

func numbersOf(epoch int) store.Numbers { return store.Numbers{epochAt: epoch} }

// load commits again what a disk has. A sink fills the places in order, so each record is the next one of its stream; false if one is not.
func (s *Sink) load(records []store.Record) bool {
	for place, r := range records {
		if r == (store.Record{}) {
			continue
		}
		st := &s.streams[r.Stream]
		if place != s.committed() || r.Seq != st.next() {
			return false
		}
		st.log = append(st.log, r.Body)
	}
	return true
}

// committed tells how many records of all streams are committed, which is also the place of the next one.
func (s *Sink) committed() int {
	n := 0
	for i := range s.streams {
		n += s.streams[i].last()
	}
	return n
}

// last tells the number of the last record that is committed, 0 if none is.
func (st *stream) last() int { return len(st.log) }

func (st *stream) next() int { return st.last() + 1 }

// Epoch tells the greatest opening of the agent that has said Hello (P8).
func (s *Sink) Epoch() int { return s.epoch }

// Log tells a stream's records that are committed (P9).
func (s *Sink) Log(stream int) []string {
	if !frame.IsStream(stream) || s.store.IsDead() {
		return nil
	}
	return slices.Clone(s.streams[stream].log)
}

// Arm has the disk fail at a write to come, or not any more (P10).
func (s *Sink) Arm(n int) { s.store.Arm(n) }

// Image tells what the disk would hold if it failed now (P10).
func (s *Sink) Image(keep uint64) []byte { return s.store.Image(keep) }

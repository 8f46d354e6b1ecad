// Package agent: the end that takes records, keeps them until they are committed, and sends them.
package agent

import (
	"strings"

	"courier/api"
	"courier/frame"
	"courier/shelf"
	"courier/store"
)

// Agent keeps records on its disk and sends them.
type Agent struct {
	store   *store.Store
	gone    store.Numbers // of each stream, up to which number its records are no longer kept
	streams [api.Streams]stream
	free    []int // the places of the disk where no kept record stands
	tick    int
	welcome bool
	fenced  bool
	rules   []rule
}

// stream is what is kept of a stream, and, since the agent became welcome, when that was sent and what the sink holds.
type stream struct {
	kept shelf.Shelf[int, record]
	sent shelf.Shelf[int, int] // the ticks
	held shelf.Shelf[int, struct{}]
}

type record struct {
	body  string
	place int
}

// rule says what is done with a frame of a kind; a kind without a rule changes nothing.
type rule struct {
	kind int
	obey func(api.Frame) api.Errno
}

// Open makes an agent on a disk that holds these bytes (P4).
func Open(disk []byte) (*Agent, api.Errno) {
	if len(disk) != api.AgentDisk {
		return nil, api.ErrDisk
	}
	s, contents, errno := store.Open(disk)
	if errno != api.OK {
		return nil, errno
	}
	a := &Agent{store: s, gone: contents.Numbers}
	if !a.load(contents.Records) {
		return nil, api.ErrDisk
	}
	a.rules = []rule{
		{api.Welcome, a.obeyWelcome},
		{api.Ack, a.obeyAck},
		{api.Reset, a.obeyReset},
	}
	return a, api.OK
}

// mostRecords of a stream are all that the document promises anything of; beyond them numbers would no longer fit into frames.
const mostRecords = 1 << 30

// load keeps the records of a disk that are not gone; false if no agent has left them so: two of one number, one left out, or too many.
func (a *Agent) load(records []store.Record) bool {
	for place, r := range records {
		if r.Seq <= a.gone[r.Stream] {
			a.free = append(a.free, place)
			continue
		}
		kept := &a.streams[r.Stream].kept
		if kept.Has(r.Seq) {
			return false
		}
		kept.Put(r.Seq, record{r.Body, place})
	}
	for i := range a.streams {
		if last := a.last(i); last > mostRecords || last != a.gone[i]+a.streams[i].kept.Len() {
			return false
		}
	}
	return true
}

// last tells the number of the last record of a stream that was taken.
func (a *Agent) last(stream int) int {
	last, _ := a.streams[stream].kept.Last()
	return max(last, a.gone[stream])
}

// Epoch tells which opening of its disk this is (P4).
func (a *Agent) Epoch() int { return a.store.Opening() }

// Submit takes a record (P5).
func (a *Agent) Submit(stream int, body string) api.Errno {
	switch {
	case a.store.IsDead():
		return api.ErrDead
	case !frame.IsStream(stream):
		return api.ErrStream
	case len(body) > api.MaxBody:
		return api.ErrBody
	case len(a.free) == 0:
		return api.ErrFull
	}
	seq, place := a.last(stream)+1, a.free[len(a.free)-1]
	if errno := a.store.WriteRecord(place, store.Record{Stream: stream, Seq: seq, Body: body}); errno != api.OK {
		return errno
	}
	a.free = a.free[:len(a.free)-1]
	// A copy, for the body may be a piece of a much longer text.
	a.streams[stream].kept.Put(seq, record{strings.Clone(body), place})
	return api.OK
}

// Spool tells a stream's records that are kept (P5).
func (a *Agent) Spool(stream int) []string {
	if !frame.IsStream(stream) || a.store.IsDead() {
		return nil
	}
	var bodies []string
	for _, r := range a.streams[stream].kept.All() {
		bodies = append(bodies, r.body)
	}
	return bodies
}

// Arm has the disk fail at a write to come, or not any more (P10).
func (a *Agent) Arm(n int) { a.store.Arm(n) }

// Image tells what the disk would hold if it failed now (P10).
func (a *Agent) Image(keep uint64) []byte { return a.store.Image(keep) }

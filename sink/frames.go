package sink

import (
	"courier/api"
	"courier/frame"
	"courier/store"
)

// Deliver takes a frame, and tells which ones are answered (P8).
func (s *Sink) Deliver(bytes []byte) ([][]byte, api.Errno) {
	f, errno := frame.Decode(bytes)
	if errno != api.OK {
		return nil, errno
	}
	for _, r := range s.rules {
		if r.kind == f.Kind {
			return [][]byte{frame.Bytes(r.answer(f))}, api.OK
		}
	}
	return nil, api.OK
}

func (s *Sink) answerHello(f api.Frame) api.Frame {
	if f.Epoch < s.epoch {
		return resetOf(s.epoch)
	}
	if f.Epoch > s.epoch {
		s.begin(f.Epoch)
	}
	var committed [api.Streams]int
	for i := range committed {
		committed[i] = s.streams[i].last()
	}
	return api.Frame{Kind: api.Welcome, Epoch: s.epoch, Body: frame.WelcomeBody(committed)}
}

// begin takes the Epoch of a later opening, of which nothing is held.
func (s *Sink) begin(epoch int) {
	s.store.WriteNumbers(numbersOf(epoch))
	s.epoch = epoch
	for i := range s.streams {
		s.streams[i].held.Clear()
	}
}

func (s *Sink) answerData(f api.Frame) api.Frame {
	if f.Epoch != s.epoch {
		return resetOf(max(f.Epoch, s.epoch))
	}
	s.take(f)
	st := &s.streams[f.Stream]
	return api.Frame{
		Kind: api.Ack, Epoch: s.epoch, Stream: f.Stream, Seq: st.last(),
		Body: frame.AckBody(st.last(), st.held.Has),
	}
}

func resetOf(epoch int) api.Frame { return api.Frame{Kind: api.Reset, Epoch: epoch} }

// take commits or holds the record of a Data, if it is one of those that come next.
func (s *Sink) take(f api.Frame) {
	st := &s.streams[f.Stream]
	switch ahead := f.Seq - st.next(); {
	case ahead == 0 && s.hasRoom():
		s.commit(f.Stream, f.Body)
		s.commitHeld(f.Stream)
	case ahead >= 1 && ahead <= api.Ahead && !st.held.Has(f.Seq):
		st.held.Put(f.Seq, record{f.Body})
	}
}

func (s *Sink) hasRoom() bool { return s.committed() < api.Log }

// commit makes the next record of a stream lasting, which it is before any other one is written.
func (s *Sink) commit(stream int, body string) {
	st := &s.streams[stream]
	s.store.WriteRecord(s.committed(), store.Record{Stream: stream, Seq: st.next(), Body: body})
	st.log = append(st.log, body)
}

// commitHeld commits those held records of a stream that are next now, as far as there is room.
func (s *Sink) commitHeld(stream int) {
	st := &s.streams[stream]
	for s.hasRoom() {
		r, held := st.held.Take(st.next())
		if !held {
			return
		}
		s.commit(stream, r.body)
	}
}

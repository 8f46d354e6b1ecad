package sink

import (
	"courier/api"
	"courier/frame"
	"courier/store"
)

// Deliver takes a frame, and tells which ones are answered (P8).
func (s *Sink) Deliver(bytes []byte) ([][]byte, api.Errno) {
	if s.store.IsDead() {
		return nil, api.ErrDead
	}
	f, errno := frame.Decode(bytes)
	if errno != api.OK {
		return nil, errno
	}
	for _, r := range s.rules {
		if r.kind == f.Kind {
			return answerBy(r, f)
		}
	}
	return nil, api.OK
}

func answerBy(r rule, f api.Frame) ([][]byte, api.Errno) {
	answer, errno := r.answer(f)
	if errno != api.OK {
		return nil, errno
	}
	return [][]byte{frame.Bytes(answer)}, api.OK
}

func (s *Sink) answerHello(f api.Frame) (api.Frame, api.Errno) {
	if f.Epoch < s.epoch {
		return resetOf(s.epoch), api.OK
	}
	if errno := s.begin(f.Epoch); errno != api.OK {
		return api.Frame{}, errno
	}
	var committed [api.Streams]int
	for i := range committed {
		committed[i] = s.streams[i].last()
	}
	return api.Frame{Kind: api.Welcome, Epoch: s.epoch, Body: frame.WelcomeBody(committed)}, api.OK
}

// begin takes the Epoch of a Hello; what is held is forgotten if it came of an earlier one.
func (s *Sink) begin(epoch int) api.Errno {
	if epoch == s.epoch {
		return api.OK
	}
	if errno := s.store.WriteNumbers(numbersOf(epoch)); errno != api.OK {
		return errno
	}
	s.epoch = epoch
	for i := range s.streams {
		s.streams[i].held.Clear()
	}
	return api.OK
}

func (s *Sink) answerData(f api.Frame) (api.Frame, api.Errno) {
	if f.Epoch != s.epoch {
		return resetOf(max(f.Epoch, s.epoch)), api.OK
	}
	if errno := s.take(f); errno != api.OK {
		return api.Frame{}, errno
	}
	st := &s.streams[f.Stream]
	return api.Frame{
		Kind: api.Ack, Epoch: s.epoch, Stream: f.Stream, Seq: st.last(),
		Body: frame.AckBody(st.last(), st.held.Has),
	}, api.OK
}

func resetOf(epoch int) api.Frame { return api.Frame{Kind: api.Reset, Epoch: epoch} }

// take commits or holds the record of a Data, if it is one of those that come next.
func (s *Sink) take(f api.Frame) api.Errno {
	st := &s.streams[f.Stream]
	switch ahead := f.Seq - st.next(); {
	case ahead == 0 && s.hasRoom():
		return s.commitFrom(f.Stream, f.Body)
	case ahead >= 1 && ahead <= api.Ahead && !st.held.Has(f.Seq):
		st.held.Put(f.Seq, record{f.Body})
	}
	return api.OK
}

func (s *Sink) hasRoom() bool { return s.committed() < api.Log }

// commitFrom commits the next record of a stream, and then those held that are next, as far as there is room.
func (s *Sink) commitFrom(stream int, body string) api.Errno {
	st := &s.streams[stream]
	errno := s.commit(stream, body)
	for errno == api.OK && s.hasRoom() {
		next, held := st.held.Take(st.next())
		if !held {
			break
		}
		errno = s.commit(stream, next.body)
	}
	return errno
}

// commit makes the next record of a stream lasting, which it is before any other one is written.
func (s *Sink) commit(stream int, body string) api.Errno {
	st := &s.streams[stream]
	if errno := s.store.WriteRecord(s.committed(), store.Record{Stream: stream, Seq: st.next(), Body: body}); errno != api.OK {
		return errno
	}
	st.log = append(st.log, body)
	return api.OK
}

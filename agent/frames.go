package agent

import (
	"courier/api"
	"courier/frame"
	"courier/store"
)

// Tick tells which frames are sent now (P6).
func (a *Agent) Tick() [][]byte {
	a.tick++
	if a.fenced || a.store.IsDead() {
		return nil
	}
	if !a.welcome {
		return [][]byte{frame.Bytes(api.Frame{Kind: api.Hello, Epoch: a.Epoch()})}
	}
	var frames [][]byte
	for stream := range a.streams {
		frames = append(frames, a.send(stream)...)
	}
	return frames
}

// send tells those frames of a stream that are sent now.
func (a *Agent) send(stream int) [][]byte {
	var frames [][]byte
	s := &a.streams[stream]
	for seq, r := range s.kept.First(api.Window) {
		if s.isDue(seq, a.tick) {
			s.sent.Put(seq, a.tick)
			frames = append(frames, frame.Bytes(api.Frame{Kind: api.Data, Epoch: a.Epoch(), Stream: stream, Seq: seq, Body: r.body}))
		}
	}
	return frames
}

func (s *stream) isDue(seq, tick int) bool {
	if s.held.Has(seq) {
		return false
	}
	sent, ok := s.sent.Get(seq)
	return !ok || tick-sent >= api.Patience
}

// Deliver takes a frame (P7).
func (a *Agent) Deliver(bytes []byte) api.Errno {
	if a.store.IsDead() {
		return api.ErrDead
	}
	f, errno := frame.Decode(bytes)
	if errno != api.OK {
		return errno
	}
	for _, r := range a.rules {
		if r.kind == f.Kind {
			return r.obey(f)
		}
	}
	return api.OK
}

func (a *Agent) obeyReset(f api.Frame) api.Errno {
	switch {
	case f.Epoch > a.Epoch():
		a.fenced = true
	case f.Epoch == a.Epoch():
		a.welcome = false
	}
	return api.OK
}

func (a *Agent) obeyWelcome(f api.Frame) api.Errno {
	if f.Epoch != a.Epoch() {
		return api.OK
	}
	gone := a.gone
	for i, n := range frame.Committed(f.Body) {
		gone[i] = max(gone[i], min(n, a.last(i)))
	}
	if errno := a.letGo(gone); errno != api.OK {
		return errno
	}
	for i := range a.streams {
		a.streams[i].sent.Clear()
		a.streams[i].held.Clear()
	}
	a.welcome = true
	return api.OK
}

func (a *Agent) obeyAck(f api.Frame) api.Errno {
	if f.Epoch != a.Epoch() || !a.welcome {
		return api.OK
	}
	seq := min(f.Seq, a.last(f.Stream))
	if seq < a.gone[f.Stream] {
		return api.OK // it came late
	}
	gone := a.gone
	gone[f.Stream] = seq
	if errno := a.letGo(gone); errno != api.OK {
		return errno
	}
	held := &a.streams[f.Stream].held
	held.Clear()
	for _, n := range frame.Held(seq, f.Body) {
		held.Put(n, struct{}{})
	}
	return api.OK
}

// letGo no longer keeps the records up to these numbers. One write says it of all streams, so it is lasting of all or of none.
func (a *Agent) letGo(gone store.Numbers) api.Errno {
	if gone == a.gone {
		return api.OK
	}
	if errno := a.store.WriteNumbers(gone); errno != api.OK {
		return errno
	}
	a.gone = gone
	for i := range a.streams {
		for _, r := range a.streams[i].kept.TakeUpTo(gone[i]) {
			a.free = append(a.free, r.place)
		}
		a.streams[i].sent.TakeUpTo(gone[i])
	}
	return api.OK
}

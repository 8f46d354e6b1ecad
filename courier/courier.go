// Package courier: records are carried from an agent to a sink: see DOC.md.
package courier

import (
	"courier/agent"
	"courier/api"
	"courier/frame"
	"courier/sink"
)

// Encode makes bytes of a frame (P3).
func Encode(f api.Frame) ([]byte, api.Errno) { return frame.Encode(f) }

// Decode makes a frame of bytes (P3).
func Decode(b []byte) (api.Frame, api.Errno) { return frame.Decode(b) }

// Agent keeps records until they are committed, and sends them.
type Agent struct{ end *agent.Agent }

// OpenAgent makes an agent on a disk that holds these bytes (P4).
func OpenAgent(disk []byte) (*Agent, api.Errno) {
	end, errno := agent.Open(disk)
	if errno != api.OK {
		return nil, errno
	}
	return &Agent{end}, api.OK
}

// Epoch tells which opening of its disk this is (P4).
func (a *Agent) Epoch() int { return a.end.Epoch() }

// Submit takes a record (P5).
func (a *Agent) Submit(stream int, body string) api.Errno { return a.end.Submit(stream, body) }

// Spool tells a stream's records that are kept (P5).
func (a *Agent) Spool(stream int) []string { return a.end.Spool(stream) }

// Tick tells which frames are sent now (P6).
func (a *Agent) Tick() [][]byte { return a.end.Tick() }

// Deliver takes a frame (P7).
func (a *Agent) Deliver(frame []byte) api.Errno { return a.end.Deliver(frame) }

// Image tells what the disk would hold if it failed now (P10).
func (a *Agent) Image(keep uint64) []byte { return a.end.Image(keep) }

// Arm has the disk fail at a write to come (P10).
func (a *Agent) Arm(n int) { a.end.Arm(n) }

// Sink commits records.
type Sink struct{ end *sink.Sink }

// OpenSink makes a sink on a disk that holds these bytes (P4).
func OpenSink(disk []byte) (*Sink, api.Errno) {
	end, errno := sink.Open(disk)
	if errno != api.OK {
		return nil, errno
	}
	return &Sink{end}, api.OK
}

// Epoch tells the agent's opening that the sink has heard of last (P8).
func (s *Sink) Epoch() int { return s.end.Epoch() }

// Deliver takes a frame; what is answered (P8).
func (s *Sink) Deliver(frame []byte) ([][]byte, api.Errno) { return s.end.Deliver(frame) }

// Log tells a stream's records that are committed (P9).
func (s *Sink) Log(stream int) []string { return s.end.Log(stream) }

// Image tells what the disk would hold if it failed now (P10).
func (s *Sink) Image(keep uint64) []byte { return s.end.Image(keep) }

// Arm has the disk fail at a write to come (P10).
func (s *Sink) Arm(n int) { s.end.Arm(n) }

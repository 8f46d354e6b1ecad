package sink

import (
	"slices"
	"testing"

	"courier/api"
	"courier/frame"
	"courier/store"
)

// forged is a disk that a store has written, but no sink; a record of number 0 leaves its place empty.
func forged(t *testing.T, numbers store.Numbers, records ...store.Record) []byte {
	t.Helper()
	s, _, e := store.Open(make([]byte, api.SinkDisk))
	if e != api.OK {
		t.Fatalf("store.Open: %d", e)
	}
	s.WriteNumbers(numbers)
	for place, r := range records {
		if r.Seq > 0 {
			s.WriteRecord(place, r)
		}
	}
	return s.Image(0)
}

func wantRefused(t *testing.T, what string, disk []byte) {
	t.Helper()
	if s, e := Open(disk); s != nil || e != api.ErrDisk {
		t.Errorf("P4: Open of %s: %v, %d, want ErrDisk", what, s != nil, e)
	}
}

func wantOpened(t *testing.T, disk []byte, epoch int, logs ...[]string) *Sink {
	t.Helper()
	s, e := Open(disk)
	if e != api.OK || s.Epoch() != epoch {
		t.Fatalf("P4: Open: %v, %d, want a sink of Epoch %d", s != nil, e, epoch)
	}
	for stream, want := range logs {
		if got := s.Log(stream); !slices.Equal(got, want) {
			t.Errorf("P4: Log(%d) = %q, want %q", stream, got, want)
		}
	}
	return s
}

func TestP4DisksASinkMayHaveLeft(t *testing.T) {
	wantOpened(t, forged(t, store.Numbers{}), 0, nil, nil, nil)
	disk := forged(t, store.Numbers{api.MaxNumber}, store.Record{Seq: 1, Body: "a"}, store.Record{Stream: 2, Seq: 1, Body: "x"},
		store.Record{Seq: 2, Body: ""}, store.Record{Stream: 2, Seq: 2, Body: "y"})
	wantOpened(t, disk, api.MaxNumber, []string{"a", ""}, nil, []string{"x", "y"})
	var all []store.Record
	for n := range api.Log {
		all = append(all, store.Record{Stream: 1, Seq: n + 1, Body: "r"})
	}
	s := wantOpened(t, forged(t, store.Numbers{7}, all...), 7, nil, slices.Repeat([]string{"r"}, api.Log), nil)
	if s.hasRoom() {
		t.Error("P4: a sink with 120 records has room")
	}
}

func TestP4DisksNoSinkHasLeft(t *testing.T) {
	one, two := store.Record{Seq: 1, Body: "a"}, store.Record{Seq: 2, Body: "b"}
	wantRefused(t, "numbers beside the Epoch", forged(t, store.Numbers{1, 1, 0}))
	wantRefused(t, "numbers beside the Epoch", forged(t, store.Numbers{1, 0, 1}))
	wantRefused(t, "a record twice", forged(t, store.Numbers{}, one, one))
	wantRefused(t, "two records of one number", forged(t, store.Numbers{}, one, store.Record{Seq: 1, Body: "b"}))
	wantRefused(t, "a first record left out", forged(t, store.Numbers{}, two))
	wantRefused(t, "a record left out", forged(t, store.Numbers{}, one, store.Record{Seq: 3}))
	wantRefused(t, "a later record first", forged(t, store.Numbers{}, two, one))
	wantRefused(t, "a record of another stream left out", forged(t, store.Numbers{}, one, store.Record{Stream: 1, Seq: 2}))
	wantRefused(t, "a record of the greatest number", forged(t, store.Numbers{}, one, store.Record{Seq: api.MaxNumber}))
	wantRefused(t, "a first place left empty", forged(t, store.Numbers{}, store.Record{}, one))
	wantRefused(t, "a place left empty", forged(t, store.Numbers{}, one, store.Record{}, two))
}

func take(t *testing.T, s *Sink, seq int) {
	t.Helper()
	if _, e := s.Deliver(frame.Bytes(api.Frame{Kind: api.Data, Seq: seq, Body: "x"})); e != api.OK {
		t.Fatalf("P8: Deliver of record %d = %d", seq, e)
	}
}

// For a record for which there is no room it is as if it had not come.
func TestNothingIsKeptOfWhatHasNoRoom(t *testing.T) {
	s := wantOpened(t, make([]byte, api.SinkDisk), 0)
	for n := range api.Log + 1 {
		take(t, s, n+1)
	}
	if held := s.streams[0].held.Len(); held != 0 {
		t.Errorf("P8: a full sink holds %d records, of which none is further than the next one", held)
	}
}

// A sink keeps no more than its log and what it may hold, however often records come.
func TestNothingIsKeptOfWhatIsCommitted(t *testing.T) {
	s := wantOpened(t, make([]byte, api.SinkDisk), 0)
	for n := 1; n <= 200; n++ {
		for _, seq := range []int{n + 4, n + 3, n + 1, n, n, n + 2, max(1, n-5)} {
			take(t, s, seq)
			if held := s.streams[0].held.Len(); held > 1+api.Ahead {
				t.Fatalf("%d are held", held)
			}
		}
	}
	s.Deliver(frame.Bytes(api.Frame{Kind: api.Hello, Epoch: 1}))
	if len(s.streams[0].log) != api.Log || s.streams[0].held.Len() != 0 {
		t.Errorf("%d are committed, %d held", len(s.streams[0].log), s.streams[0].held.Len())
	}
}

package agent

import (
	"slices"
	"testing"

	"courier/api"
	"courier/frame"
	"courier/store"
)

// forged is a disk that a store has written, but no agent.
func forged(t *testing.T, numbers store.Numbers, records ...store.Record) []byte {
	t.Helper()
	s, _, e := store.Open(make([]byte, api.AgentDisk))
	if e != api.OK {
		t.Fatalf("store.Open: %d", e)
	}
	s.WriteNumbers(numbers)
	for place, r := range records {
		if r.Seq > 0 {
			s.WriteRecord(place, r)
		}
	}
	return s.Image(0)
}

func wantRefused(t *testing.T, what string, disk []byte) {
	t.Helper()
	if a, e := Open(disk); a != nil || e != api.ErrDisk {
		t.Errorf("P4: Open of %s: %v, %d, want ErrDisk", what, a != nil, e)
	}
}

func wantOpened(t *testing.T, disk []byte, spools ...[]string) *Agent {
	t.Helper()
	a, e := Open(disk)
	if e != api.OK {
		t.Fatalf("P4: Open: %d", e)
	}
	for stream, want := range spools {
		if got := a.Spool(stream); !slices.Equal(got, want) {
			t.Errorf("P4: Spool(%d) = %q, want %q", stream, got, want)
		}
	}
	return a
}

func TestP4DisksNoAgentHasLeft(t *testing.T) {
	wantRefused(t, "two records of one number", forged(t, store.Numbers{}, store.Record{Seq: 1, Body: "a"}, store.Record{Seq: 1, Body: "b"}))
	wantRefused(t, "a record twice", forged(t, store.Numbers{}, store.Record{Seq: 1}, store.Record{Seq: 1}))
	wantRefused(t, "a first record left out", forged(t, store.Numbers{}, store.Record{Seq: 2}))
	wantRefused(t, "a record left out", forged(t, store.Numbers{1, 0, 0}, store.Record{Seq: 2}, store.Record{Seq: 4}))
	const most = 1 << 30
	wantRefused(t, "a record of a number above 2^30", forged(t, store.Numbers{most, 0, 0}, store.Record{Seq: most + 1}))
	wantRefused(t, "more than 2^30 records that are gone", forged(t, store.Numbers{0, 0, most + 1}))
	wantRefused(t, "as many records as numbers go", forged(t, store.Numbers{0, api.MaxNumber, 0}))
	wantRefused(t, "a record of the greatest number", forged(t, store.Numbers{0, 0, api.MaxNumber - 1}, store.Record{Stream: 2, Seq: api.MaxNumber}))
	wantRefused(t, "a record of another stream left out", forged(t, store.Numbers{}, store.Record{Seq: 1}, store.Record{Stream: 2, Seq: 2}))
}

// Records that are gone may stand anywhere, twice too, for their sectors are written again only when they are needed.
func TestP4RecordsThatAreGone(t *testing.T) {
	disk := forged(t, store.Numbers{3, 0, 1 << 30}, store.Record{Seq: 2, Body: "x"}, store.Record{Seq: 2, Body: "y"},
		store.Record{Seq: 5, Body: "b"}, store.Record{}, store.Record{Seq: 4, Body: "a"}, store.Record{Stream: 2, Seq: 7, Body: "z"}, store.Record{Stream: 1, Seq: 1, Body: "c"})
	a := wantOpened(t, disk, []string{"a", "b"}, []string{"c"}, nil)
	for range api.Spool - 3 {
		if e := a.Submit(0, "d"); e != api.OK {
			t.Fatalf("P5: Submit = %d", e)
		}
	}
	if e := a.Submit(0, "d"); e != api.ErrFull {
		t.Errorf("P5: Submit = %d, want ErrFull", e)
	}
	wantOpened(t, a.Image(0), a.Spool(0), a.Spool(1), nil)
}

// On a disk that says as many openings and records as may be, what is sent still are frames.
func TestP4GreatNumbers(t *testing.T) {
	const most = 1 << 30
	a := wantOpened(t, forged(t, store.Numbers{most, most - 1, 0}, store.Record{Stream: 1, Seq: most, Body: "a"}), nil, []string{"a"}, nil)
	for stream := range api.Streams {
		if e := a.Submit(stream, "x"); e != api.OK {
			t.Fatalf("P5: Submit = %d", e)
		}
	}
	welcome, _ := frame.Encode(api.Frame{Kind: api.Welcome, Epoch: a.Epoch(), Body: "\x00\x00\x00\x00\x00\x00\x00\x00\x00\x00\x00\x00"})
	a.Deliver(welcome)
	var seqs []int
	for _, b := range a.Tick() {
		f, e := frame.Decode(b)
		if e != api.OK {
			t.Errorf("P6: Tick says what is no frame: %v", b)
		}
		seqs = append(seqs, f.Seq)
	}
	if want := []int{most + 1, most, most + 1, 1}; !slices.Equal(seqs, want) {
		t.Errorf("P6: sent are %d, want %d", seqs, want)
	}
}

// What an agent knows of records that are no longer kept is forgotten with them.
func TestNothingIsKeptOfWhatIsGone(t *testing.T) {
	a := wantOpened(t, make([]byte, api.AgentDisk))
	welcome, _ := frame.Encode(api.Frame{Kind: api.Welcome, Epoch: 1, Body: "\x00\x00\x00\x00\x00\x00\x00\x00\x00\x00\x00\x00"})
	a.Deliver(welcome)
	for n := 1; n <= 500; n++ {
		a.Submit(0, "x")
		a.Tick()
		ack, _ := frame.Encode(api.Frame{Kind: api.Ack, Epoch: 1, Seq: n, Body: "\x07"})
		a.Deliver(ack)
		s := &a.streams[0]
		if s.kept.Len() != 0 || s.sent.Len() != 0 || s.held.Len() > api.Ahead || len(a.free) != api.Spool {
			t.Fatalf("after %d records: %d kept, %d sent, %d held, %d free", n, s.kept.Len(), s.sent.Len(), s.held.Len(), len(a.free))
		}
	}
}

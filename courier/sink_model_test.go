package courier_test

import (
	"bytes"
	"maps"
	"math/rand"
	"slices"
	"strconv"
	"testing"

	"courier/api"
	"courier/courier"
)

// sinkModel is a sink that has all records that it has taken in one map, and works out from this what it answers.
type sinkModel struct {
	epoch int
	taken map[place]string // committed are those up to last, held those behind
	last  [api.Streams]int
}

func (m *sinkModel) log(stream int) []string {
	if stream < 0 || stream > 2 {
		return nil
	}
	var log []string
	for n := range m.last[stream] {
		log = append(log, m.taken[place{stream, n + 1}])
	}
	return log
}

func (m *sinkModel) committed() int { return m.last[0] + m.last[1] + m.last[2] }

// forget makes the model one of a sink that holds nothing.
func (m *sinkModel) forget() {
	for p := range m.taken {
		if p.seq > m.last[p.stream] {
			delete(m.taken, p)
		}
	}
}

func (m *sinkModel) deliver(f api.Frame) [][]byte {
	switch {
	case f.Kind == api.Hello && f.Epoch < m.epoch, f.Kind == api.Data && f.Epoch < m.epoch:
		return [][]byte{resetOf(m.epoch)}
	case f.Kind == api.Hello:
		if f.Epoch > m.epoch {
			m.forget()
		}
		m.epoch = f.Epoch
		return [][]byte{welcomeOf(m.epoch, m.last[:]...)}
	case f.Kind == api.Data && f.Epoch > m.epoch:
		return [][]byte{resetOf(f.Epoch)}
	case f.Kind == api.Data:
		return [][]byte{m.data(f.Stream, f.Seq, f.Body)}
	}
	return nil
}

func (m *sinkModel) data(stream, seq int, body string) []byte {
	full := func() bool { return m.committed() >= 120 }
	isNext := seq == m.last[stream]+1
	if _, known := m.taken[place{stream, seq}]; !known && seq <= m.last[stream]+4 && !(isNext && full()) {
		m.taken[place{stream, seq}] = body
	}
	for isNext && !full() {
		if _, known := m.taken[place{stream, m.last[stream] + 1}]; !known {
			break
		}
		m.last[stream]++
	}
	bits := byte(0)
	for i := range 3 {
		if _, held := m.taken[place{stream, m.last[stream] + 2 + i}]; held {
			bits += 1 << i
		}
	}
	return ackOf(m.epoch, stream, m.last[stream], bits)
}

func (m *sinkModel) clone() *sinkModel {
	n := *m
	n.taken = maps.Clone(m.taken)
	return &n
}

// sinkRun is a sink beside its model.
type sinkRun struct {
	sink  *courier.Sink
	model *sinkModel
	armed int // at most so many records can be committed, and Epochs taken, until the disk fails; 0: it doesn't
}

func newSinkRun(t *testing.T) *sinkRun {
	t.Helper()
	return &sinkRun{sink: newSink(t), model: &sinkModel{taken: map[place]string{}}}
}

func (c *sinkRun) check(t *testing.T) {
	t.Helper()
	for stream := -1; stream <= api.Streams; stream++ {
		if got, want := c.sink.Log(stream), c.model.log(stream); !slices.Equal(got, want) {
			t.Fatalf("P9: Log(%d) = %q, want %q", stream, got, want)
		}
	}
	wantEpoch(t, c.sink, c.model.epoch)
	if !bytes.Equal(c.sink.Image(0), c.sink.Image(^uint64(0))) {
		t.Fatal("a call has left something that isn't lasting")
	}
}

func (c *sinkRun) deliver(t *testing.T, r *rand.Rand, f api.Frame) {
	t.Helper()
	b, before := bytesOfFrame(f), c.model.clone()
	got, e := c.sink.Deliver(b)
	want := c.model.deliver(f)
	if c.armed > 0 && e == api.ErrCrash {
		if len(got) != 0 {
			t.Fatalf("P10: Deliver(%v) = %v beside ErrCrash", b, got)
		}
		c.openDead(t, r, before)
		return
	}
	if e != api.OK || !slices.EqualFunc(got, want, bytes.Equal) {
		t.Fatalf("P8: Deliver(%v) = %v, %d, want %v", b, got, e, want)
	}
	if c.armed > 0 {
		c.armed -= c.model.committed() - before.committed()
		if c.model.epoch != before.epoch {
			c.armed--
		}
		if c.armed < 1 {
			t.Fatalf("P10: Deliver(%v): the disk should have failed by now", b)
		}
	}
}

// openDead opens the disk of a sink that has failed: of what its model has done since, the first records are there, and the Epoch or not.
func (c *sinkRun) openDead(t *testing.T, r *rand.Rand, before *sinkModel) {
	t.Helper()
	wantDeadSink(t, c.sink, before.epoch)
	again, e := courier.OpenSink(c.sink.Image(r.Uint64()))
	if e != api.OK {
		t.Fatalf("P4: OpenSink: %d", e)
	}
	c.sink, c.armed = again, 0
	for stream := range api.Streams {
		n := len(again.Log(stream))
		if n < before.last[stream] || n > c.model.last[stream] {
			t.Fatalf("P10: %d records of stream %d, want %d to %d", n, stream, before.last[stream], c.model.last[stream])
		}
		c.model.last[stream] = n
	}
	if again.Epoch() == before.epoch {
		c.model.epoch = before.epoch
	}
	c.model.forget()
}

// step does one thing with both.
func (c *sinkRun) step(t *testing.T, r *rand.Rand) {
	t.Helper()
	m := c.model
	stream, epoch := r.Intn(3), m.epoch
	if r.Intn(10) == 0 {
		epoch = min(api.MaxNumber, max(0, epoch+r.Intn(5)-2))
	}
	near := max(0, m.last[stream]+r.Intn(9)-2)
	switch k := r.Intn(100); {
	case k < 30:
		c.deliver(t, r, api.Frame{Kind: api.Data, Epoch: epoch, Stream: stream, Seq: m.last[stream] + 1, Body: strconv.Itoa(r.Intn(1000))})
	case k < 80:
		c.deliver(t, r, api.Frame{Kind: api.Data, Epoch: epoch, Stream: stream, Seq: max(1, near), Body: text20[:r.Intn(21)]})
	case k < 88:
		c.deliver(t, r, api.Frame{Kind: api.Hello, Epoch: epoch})
	case k < 90:
		c.deliver(t, r, api.Frame{Kind: api.Ack, Epoch: epoch, Stream: stream, Seq: near, Body: string([]byte{byte(r.Intn(8))})})
		c.deliver(t, r, api.Frame{Kind: api.Reset, Epoch: epoch})
		c.deliver(t, r, api.Frame{Kind: api.Welcome, Epoch: epoch, Body: nought + one + one})
	case k < 94:
		b := dataOf(epoch, stream, max(1, near), "spoilt")
		b[r.Intn(len(b))] ^= 1 << r.Intn(8)
		wantUnanswered(t, c.sink, b)
	case k < 96:
		c.reopen(t, r)
	case k < 98:
		n := r.Intn(8) - 1
		c.sink.Arm(n)
		c.armed = max(0, n)
	}
	c.check(t)
}

// reopen opens the sink's disk again, as if it failed now.
func (c *sinkRun) reopen(t *testing.T, r *rand.Rand) {
	t.Helper()
	c.model.forget()
	c.sink, c.armed = openSink(t, c.sink.Image(r.Uint64()), c.model.epoch), 0
	c.check(t)
}

func TestSinkIsAsItsModel(t *testing.T) {
	full := 0
	for seed := range int64(100) {
		r := rand.New(rand.NewSource(seed))
		c := newSinkRun(t)
		for range 100 + 4*seed {
			c.step(t, r)
		}
		if c.model.committed() == api.Log {
			full++
		}
	}
	if full < 20 || full > 80 {
		t.Errorf("of 100 sinks %d became full", full)
	}
}

// checkAnySinkDisk opens a disk of any bytes: what has come of it must be a sink like others. It tells if there is one.
func checkAnySinkDisk(t *testing.T, disk []byte, seed int64) bool {
	t.Helper()
	s, e := courier.OpenSink(disk)
	if e != api.OK {
		if s != nil || e != api.ErrDisk {
			t.Fatalf("P4: OpenSink: %v, %d", s != nil, e)
		}
		return false
	}
	if s.Epoch() < 0 || s.Epoch() > api.MaxNumber {
		t.Fatalf("P4: Epoch() = %d", s.Epoch())
	}
	m := &sinkModel{epoch: s.Epoch(), taken: map[place]string{}}
	total := 0
	for stream := range api.Streams {
		for i, body := range s.Log(stream) {
			m.taken[place{stream, i + 1}] = body
			m.last[stream] = i + 1
			total++
		}
	}
	if total > api.Log {
		t.Fatalf("P4: a sink with %d records", total)
	}
	c := &sinkRun{sink: s, model: m}
	c.check(t)
	r := rand.New(rand.NewSource(seed))
	c.reopen(t, r)
	for range 60 {
		c.step(t, r)
	}
	c.reopen(t, r)
	return true
}

// livedSinks are images of one sink's disk at several times.
func livedSinks(t *testing.T, r *rand.Rand) [][]byte {
	t.Helper()
	c := newSinkRun(t)
	var images [][]byte
	for range 6 {
		for range r.Intn(60) {
			c.step(t, r)
		}
		images = append(images, c.sink.Image(0))
	}
	return images
}

func TestP4SinkDisksOfAnyBytes(t *testing.T) {
	r := rand.New(rand.NewSource(8))
	opened, refused := 0, 0
	try := func(disk []byte) {
		if checkAnySinkDisk(t, disk, r.Int63()) {
			opened++
		} else {
			refused++
		}
	}
	other := make([]byte, api.SinkDisk)
	for range 100 {
		images := livedSinks(t, r)
		image := images[len(images)-1]
		for range 3 {
			try(halves(r, image, images[r.Intn(len(images))]))
			try(halves(r, images[r.Intn(len(images))], image))
			try(halves(r, image, other))
			try(halves(r, other, image))
		}
		for range 4 {
			disk := slices.Clone(image)
			for range 1 + r.Intn(3) {
				disk[r.Intn(len(disk))] ^= 1 << r.Intn(8)
			}
			try(disk)
			// A byte of a record or of a head that is another one.
			disk = slices.Clone(image)
			disk[r.Intn(8)*api.Sector+12+r.Intn(26)] ^= 1 << r.Intn(8)
			try(disk)
			// Sectors of several times, or at other places.
			disk = slices.Clone(image)
			for range 1 + r.Intn(3) {
				from, to := r.Intn(122), r.Intn(122)
				if r.Intn(2) == 0 {
					to = from
				}
				copy(disk[to*64:], images[r.Intn(len(images))][from*64:(from+1)*64])
			}
			try(disk)
			// A sector lost, or half of it.
			disk = slices.Clone(image)
			at := r.Intn(80) * 32
			clear(disk[at : at+32<<r.Intn(2)])
			try(disk)
		}
		other = slices.Clone(image)
		r.Read(image)
		try(image)
	}
	if opened < 100 || refused < 100 {
		t.Errorf("of the disks %d were opened and %d refused: too few", opened, refused)
	}
	for fill := range 255 {
		try(bytes.Repeat([]byte{byte(fill + 1)}, api.SinkDisk))
	}
	// A disk of an agent, with more behind it, or before it, or again and again.
	for range 30 {
		for _, image := range lived(t, r) {
			more := make([]byte, api.SinkDisk-api.AgentDisk)
			try(slices.Concat(image, more))
			try(slices.Concat(more, image))
			try(slices.Repeat(image, 5)[:api.SinkDisk])
			r.Read(more)
			try(slices.Concat(image, more))
		}
	}
}

func FuzzOpenSink(f *testing.F) {
	f.Add(make([]byte, api.SinkDisk), int64(0))
	s, _ := courier.OpenSink(make([]byte, api.SinkDisk))
	s.Deliver(dataOf(0, 0, 1, "a"))
	s.Deliver(dataOf(0, 1, 1, text20))
	f.Add(s.Image(0), int64(1))
	s.Deliver(helloOf(9))
	s.Deliver(dataOf(9, 0, 2, "b"))
	f.Add(s.Image(0), int64(2))
	f.Fuzz(func(t *testing.T, disk []byte, seed int64) {
		was := slices.Clone(disk)
		checkAnySinkDisk(t, disk, seed)
		if !bytes.Equal(disk, was) {
			t.Fatal("P2: OpenSink wrote into its disk")
		}
	})
}

package courier_test

import (
	"bytes"
	"fmt"
	"math/rand"
	"slices"
	"testing"

	"courier/api"
	"courier/courier"
)

type place struct{ stream, seq int }

// model is an agent that keeps all it ever took, and works out from this what it answers.
type model struct {
	epoch, tick     int
	taken           [api.Streams][]string
	gone            [api.Streams]int
	welcome, fenced bool
	sent            map[place]int
	held            map[place]bool
}

func newModel(epoch int) *model {
	return &model{epoch: epoch, sent: map[place]int{}, held: map[place]bool{}}
}

func (m *model) spool(stream int) []string {
	if stream < 0 || stream > 2 {
		return nil
	}
	return m.taken[stream][m.gone[stream]:]
}

func (m *model) submit(stream int, body string) api.Errno {
	switch {
	case stream < 0 || stream > 2:
		return api.ErrStream
	case len(body) > 20:
		return api.ErrBody
	case len(m.spool(0))+len(m.spool(1))+len(m.spool(2)) == 24:
		return api.ErrFull
	}
	m.taken[stream] = append(m.taken[stream], body)
	return api.OK
}

func (m *model) ticked() [][]byte {
	m.tick++
	var frames [][]byte
	switch {
	case m.fenced:
	case !m.welcome:
		frames = append(frames, helloOf(m.epoch))
	default:
		for stream := range m.taken {
			for seq := m.gone[stream] + 1; seq <= m.gone[stream]+4 && seq <= len(m.taken[stream]); seq++ {
				p := place{stream, seq}
				if at, sent := m.sent[p]; !m.held[p] && (!sent || m.tick >= at+4) {
					m.sent[p] = m.tick
					frames = append(frames, dataOf(m.epoch, stream, seq, m.taken[stream][seq-1]))
				}
			}
		}
	}
	return frames
}

func (m *model) upTo(stream, seq int) int { return min(seq, len(m.taken[stream])) }

func (m *model) deliver(f api.Frame, numbers []int) {
	switch {
	case f.Kind == api.Reset && f.Epoch > m.epoch:
		m.fenced = true
	case f.Epoch != m.epoch:
	case f.Kind == api.Reset:
		m.welcome = false
	case f.Kind == api.Welcome:
		m.welcome = true
		m.sent, m.held = map[place]int{}, map[place]bool{}
		for stream, n := range numbers {
			m.gone[stream] = max(m.gone[stream], m.upTo(stream, n))
		}
	case f.Kind == api.Ack && m.welcome && f.Seq >= m.gone[f.Stream]:
		seq := m.upTo(f.Stream, f.Seq)
		m.gone[f.Stream] = seq
		for p := range m.held {
			if p.stream == f.Stream {
				delete(m.held, p)
			}
		}
		for i := range 3 {
			if f.Body[0]&(1<<i) != 0 {
				m.held[place{f.Stream, seq + 2 + i}] = true
			}
		}
	}
}

func (m *model) reopened() *model {
	n := newModel(m.epoch + 1)
	n.taken, n.gone = m.taken, m.gone
	for stream := range n.taken {
		n.taken[stream] = slices.Clone(n.taken[stream])
	}
	return n
}

// run is an agent beside its model.
type run struct {
	agent *courier.Agent
	model *model
	armed int // at most so many changes can be made until the disk fails; 0: it doesn't
}

func newRun(t *testing.T) *run {
	t.Helper()
	return &run{agent: newAgent(t), model: newModel(1)}
}

func (c *run) check(t *testing.T) {
	t.Helper()
	for stream := -1; stream <= api.Streams; stream++ {
		if got, want := c.agent.Spool(stream), c.model.spool(stream); !slices.Equal(got, want) {
			t.Fatalf("P5: Spool(%d) = %q, want %q", stream, got, want)
		}
	}
	if c.agent.Epoch() != c.model.epoch {
		t.Fatalf("P4: Epoch() = %d, want %d", c.agent.Epoch(), c.model.epoch)
	}
	if !bytes.Equal(c.agent.Image(0), c.agent.Image(^uint64(0))) {
		t.Fatal("a call has left something that isn't lasting")
	}
}

// isAsModel tells if the agent keeps what a model keeps.
func (c *run) isAsModel(m *model) bool {
	for stream := range api.Streams {
		if !slices.Equal(c.agent.Spool(stream), m.spool(stream)) {
			return false
		}
	}
	return true
}

// compare has both do one thing that may write; in the call in which the disk fails it is done wholly or not at all.
func (c *run) compare(t *testing.T, r *rand.Rand, what string, real, modelled func() api.Errno) {
	t.Helper()
	var before *model
	if c.armed > 0 {
		before = c.model.reopened()
	}
	got, want := real(), modelled()
	if c.armed == 0 || got != api.ErrCrash {
		if got != want {
			t.Fatalf("%s = %d, want %d", what, got, want)
		}
		if c.armed > 0 && !c.isAsModel(before) {
			c.armed--
			if c.armed == 0 {
				t.Fatalf("P10: %s: the disk should have failed by now", what)
			}
		}
		return
	}
	wantDeadAgent(t, c.agent, c.model.epoch)
	c.agent, c.armed = openAgent(t, c.agent.Image(r.Uint64()), before.epoch), 0
	if c.model = c.model.reopened(); !c.isAsModel(c.model) {
		c.model = before
	}
}

func (c *run) deliver(t *testing.T, r *rand.Rand, f api.Frame, numbers ...int) {
	t.Helper()
	b := bytesOfFrame(f)
	if f.Kind == api.Welcome {
		b = welcomeOf(f.Epoch, numbers...)
	}
	c.compare(t, r, fmt.Sprintf("P7: Deliver(%v)", b), func() api.Errno {
		return c.agent.Deliver(b)
	}, func() api.Errno {
		c.model.deliver(f, numbers)
		return api.OK
	})
}

// step does one thing with both.
func (c *run) step(t *testing.T, r *rand.Rand) {
	t.Helper()
	m := c.model
	near := func(stream int) int {
		return max(0, m.gone[stream]+r.Intn(8)-2)
	}
	epoch := m.epoch
	if r.Intn(8) == 0 {
		epoch = max(0, m.epoch+r.Intn(3)-1)
	}
	switch k := r.Intn(100); {
	case k < 35:
		stream, body := r.Intn(3), text20[:r.Intn(21)]
		if k < 2 {
			stream, body = r.Intn(9)-3, (text20 + text20)[:r.Intn(25)]
		}
		c.compare(t, r, fmt.Sprintf("P5: Submit(%d, %q)", stream, body), func() api.Errno {
			return c.agent.Submit(stream, body)
		}, func() api.Errno {
			return m.submit(stream, body)
		})
	case k < 65:
		if got, want := c.agent.Tick(), m.ticked(); !slices.EqualFunc(got, want, bytes.Equal) {
			t.Fatalf("P6: Tick() = %v, want %v", got, want)
		}
	case k < 85:
		stream := r.Intn(3)
		c.deliver(t, r, api.Frame{Kind: api.Ack, Epoch: epoch, Stream: stream, Seq: near(stream), Body: string([]byte{byte(r.Intn(8))})})
	case k < 90:
		c.deliver(t, r, api.Frame{Kind: api.Welcome, Epoch: epoch}, near(0), near(1), near(2))
	case k < 92:
		c.deliver(t, r, api.Frame{Kind: api.Reset, Epoch: min(epoch, m.epoch+r.Intn(40)/39)})
	case k < 94:
		deliver(t, c.agent, dataOf(epoch, 1, near(1)+1, "x"), helloOf(epoch))
	case k < 95:
		n := r.Intn(7) - 1
		c.agent.Arm(n)
		c.armed = max(0, n)
	case k < 97:
		b := ackOf(epoch, 1, near(1), 0)
		b[r.Intn(len(b))] ^= 1 << r.Intn(8)
		if e := c.agent.Deliver(b); e != api.ErrFrame {
			t.Fatalf("P7: Deliver(%v) = %d, want ErrFrame", b, e)
		}
	case k < 99:
		c.reopen(t, r)
	}
	c.check(t)
}

// reopen opens the agent's disk again, as if it failed now.
func (c *run) reopen(t *testing.T, r *rand.Rand) {
	t.Helper()
	c.model = c.model.reopened()
	c.agent, c.armed = openAgent(t, c.agent.Image(r.Uint64()), c.model.epoch), 0
	c.check(t)
}

func TestAgentIsAsItsModel(t *testing.T) {
	for seed := range int64(150) {
		r := rand.New(rand.NewSource(seed))
		c := newRun(t)
		for range 400 {
			c.step(t, r)
		}
	}
}

// learn makes the model of an agent of which nothing is known but the first numbers.
func learn(t *testing.T, a *courier.Agent, first [api.Streams]int) *run {
	t.Helper()
	c := &run{agent: a, model: newModel(a.Epoch())}
	for stream, n := range first {
		c.model.gone[stream] = n - 1
		c.model.taken[stream] = append(make([]string, n-1), a.Spool(stream)...)
	}
	deliver(t, a, welcomeOf(a.Epoch(), 0, 0, 0))
	c.model.welcome = true
	c.check(t)
	return c
}

// firstNumbers tells of each stream the number of the first record that is kept, or of the next one.
func firstNumbers(t *testing.T, a *courier.Agent) [api.Streams]int {
	t.Helper()
	var first [api.Streams]int
	deliver(t, a, welcomeOf(a.Epoch(), 0, 0, 0))
	for _, b := range a.Tick() {
		f, _ := courier.Decode(b)
		if f.Kind != api.Data {
			t.Fatalf("P6: welcome, an agent sends %#v", f)
		}
		if first[f.Stream] == 0 {
			first[f.Stream] = f.Seq
		}
	}
	for stream := range api.Streams {
		kept := a.Spool(stream)
		if (first[stream] == 0) != (len(kept) == 0) {
			t.Fatalf("P6: of stream %d are kept %q, sent from %d", stream, kept, first[stream])
		}
		if first[stream] == 0 {
			// Its numbers are asked by a record of it, for which there must be room.
			first[stream] = numberOfNext(t, a, stream)
		}
	}
	return first
}

// numberOfNext tells the number of the next record of a stream of which none is kept, from an end opened on the agent's disk.
func numberOfNext(t *testing.T, a *courier.Agent, stream int) int {
	t.Helper()
	b := openAgent(t, a.Image(0), a.Epoch()+1)
	for other := range api.Streams {
		if other != stream && len(b.Spool(other)) > 0 {
			deliver(t, b, welcomeOf(b.Epoch(), 0, 0, 0), ackOf(b.Epoch(), other, api.MaxNumber, 0))
		}
	}
	submit(t, b, stream, "x")
	deliver(t, b, welcomeOf(b.Epoch(), 0, 0, 0))
	for _, frame := range b.Tick() {
		if f, _ := courier.Decode(frame); f.Stream == stream {
			return f.Seq
		}
	}
	t.Fatal("P6: a record isn't sent")
	return 0
}

// checkAnyDisk opens a disk of any bytes: what has come of it must be an agent like others. It tells if there is one.
func checkAnyDisk(t *testing.T, disk []byte, seed int64) bool {
	t.Helper()
	a, e := courier.OpenAgent(disk)
	if e != api.OK {
		if a != nil || e != api.ErrDisk {
			t.Fatalf("P4: OpenAgent: %v, %d", a != nil, e)
		}
		return false
	}
	if total := len(a.Spool(0)) + len(a.Spool(1)) + len(a.Spool(2)); total > api.Spool || a.Epoch() < 1 {
		t.Fatalf("P4: an agent of Epoch %d with %d records", a.Epoch(), total)
	}
	const most = 1<<30 - 100 // of a disk that is opened still more often, or has more records, nothing is promised
	if a.Epoch() > most {
		return true
	}
	switch first := firstNumbers(t, a); {
	case slices.Max(first[:]) <= 1<<16:
		c, r := learn(t, a, first), rand.New(rand.NewSource(seed))
		c.reopen(t, r)
		for range 60 {
			c.step(t, r)
		}
		c.reopen(t, r)
	case slices.Max(first[:]) <= most:
		wantKept(t, a) // a model would have to keep too many
	}
	return true
}

// wantKept asks if an agent takes a record as long as it has room, and has that and the others still when it is opened again.
func wantKept(t *testing.T, a *courier.Agent) {
	t.Helper()
	want := spoolsOf(a)
	full := len(want[0])+len(want[1])+len(want[2]) == api.Spool
	if e := a.Submit(1, "new"); (e == api.ErrFull) != full || !full && e != api.OK {
		t.Fatalf("P5: Submit = %d", e)
	}
	if !full {
		want[1] = append(want[1], "new")
	}
	wantLasting(t, a, want)
}

// lived are images of one agent's disk at several times.
func lived(t *testing.T, r *rand.Rand) [][]byte {
	t.Helper()
	c := newRun(t)
	var images [][]byte
	for range 6 {
		for range r.Intn(60) {
			c.step(t, r)
		}
		images = append(images, c.agent.Image(0))
	}
	return images
}

// halves are the beginning of one image and the end of another one, mostly by whole sectors.
func halves(r *rand.Rand, one, two []byte) []byte {
	at := r.Intn(len(one))
	if r.Intn(4) > 0 {
		at -= at % api.Sector
	}
	return slices.Concat(one[:at], two[at:])
}

func TestP4DisksOfAnyBytes(t *testing.T) {
	r := rand.New(rand.NewSource(4))
	opened, refused := 0, 0
	try := func(disk []byte) {
		if checkAnyDisk(t, disk, r.Int63()) {
			opened++
		} else {
			refused++
		}
	}
	other := make([]byte, api.AgentDisk)
	for range 400 {
		images := lived(t, r)
		image := images[len(images)-1]
		try(halves(r, image, images[r.Intn(len(images))]))
		try(halves(r, image, other))
		try(halves(r, other, image))
		for range 4 {
			disk := slices.Clone(image)
			for range 1 + r.Intn(3) {
				disk[r.Intn(len(disk))] ^= 1 << r.Intn(8)
			}
			try(disk)
			// Sectors of several times, or at other places.
			disk = slices.Clone(image)
			for range 1 + r.Intn(3) {
				from, to := r.Intn(26), r.Intn(26)
				if r.Intn(2) == 0 {
					to = from
				}
				copy(disk[to*64:], images[r.Intn(len(images))][from*64:(from+1)*64])
			}
			try(disk)
			// A sector lost, or half of it.
			disk = slices.Clone(image)
			at := r.Intn(52) * 32
			clear(disk[at : at+32<<r.Intn(2)])
			try(disk)
		}
		other = slices.Clone(image)
		r.Read(image)
		try(image)
	}
	// A disk of a sink, of which a piece is left.
	for range 30 {
		for _, image := range livedSinks(t, r) {
			try(image[:api.AgentDisk])
			try(image[api.SinkDisk-api.AgentDisk:])
			at := 64 * r.Intn(90)
			try(image[at : at+api.AgentDisk])
		}
	}
	if opened < 100 || refused < 100 {
		t.Errorf("of the disks %d were opened and %d refused: too few", opened, refused)
	}
	for fill := range 255 {
		try(bytes.Repeat([]byte{byte(fill + 1)}, api.AgentDisk))
	}
}

func FuzzOpenAgent(f *testing.F) {
	f.Add(make([]byte, api.AgentDisk), int64(0))
	a, _ := courier.OpenAgent(make([]byte, api.AgentDisk))
	a.Submit(0, "a")
	a.Submit(1, text20)
	f.Add(a.Image(0), int64(1))
	b, _ := courier.OpenAgent(a.Image(0))
	b.Deliver(welcomeOf(2, 1, 0, 0))
	f.Add(b.Image(0), int64(2))
	f.Fuzz(func(t *testing.T, disk []byte, seed int64) {
		was := slices.Clone(disk)
		checkAnyDisk(t, disk, seed)
		if !bytes.Equal(disk, was) {
			t.Fatal("P2: OpenAgent wrote into its disk")
		}
	})
}

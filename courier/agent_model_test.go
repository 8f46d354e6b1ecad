package courier_test

import (
	"bytes"
	"math/rand"
	"slices"
	"testing"

	"courier/api"
	"courier/courier"
)

type place struct{ stream, seq int }

// model is an agent that keeps all it ever took, and works out from this what it answers.
type model struct {
	epoch, tick     int
	taken           [api.Streams][]string
	gone            [api.Streams]int
	welcome, fenced bool
	sent            map[place]int
	held            map[place]bool
}

func newModel(epoch int) *model {
	return &model{epoch: epoch, sent: map[place]int{}, held: map[place]bool{}}
}

func (m *model) spool(stream int) []string {
	if stream < 0 || stream > 2 {
		return nil
	}
	return m.taken[stream][m.gone[stream]:]
}

func (m *model) submit(stream int, body string) api.Errno {
	switch {
	case stream < 0 || stream > 2:
		return api.ErrStream
	case len(body) > 20:
		return api.ErrBody
	case len(m.spool(0))+len(m.spool(1))+len(m.spool(2)) == 24:
		return api.ErrFull
	}
	m.taken[stream] = append(m.taken[stream], body)
	return api.OK
}

func (m *model) ticked() [][]byte {
	m.tick++
	var frames [][]byte
	switch {
	case m.fenced:
	case !m.welcome:
		frames = append(frames, helloOf(m.epoch))
	default:
		for stream := range m.taken {
			for seq := m.gone[stream] + 1; seq <= m.gone[stream]+4 && seq <= len(m.taken[stream]); seq++ {
				p := place{stream, seq}
				if at, sent := m.sent[p]; !m.held[p] && (!sent || m.tick >= at+4) {
					m.sent[p] = m.tick
					frames = append(frames, dataOf(m.epoch, stream, seq, m.taken[stream][seq-1]))
				}
			}
		}
	}
	return frames
}

func (m *model) upTo(stream, seq int) int { return min(seq, len(m.taken[stream])) }

func (m *model) deliver(f api.Frame, numbers []int) {
	switch {
	case f.Kind == api.Reset && f.Epoch > m.epoch:
		m.fenced = true
	case f.Epoch != m.epoch:
	case f.Kind == api.Reset:
		m.welcome = false
	case f.Kind == api.Welcome:
		m.welcome = true
		m.sent, m.held = map[place]int{}, map[place]bool{}
		for stream, n := range numbers {
			m.gone[stream] = max(m.gone[stream], m.upTo(stream, n))
		}
	case f.Kind == api.Ack && m.welcome && f.Seq >= m.gone[f.Stream]:
		seq := m.upTo(f.Stream, f.Seq)
		m.gone[f.Stream] = seq
		for p := range m.held {
			if p.stream == f.Stream {
				delete(m.held, p)
			}
		}
		for i := range 3 {
			if f.Body[0]&(1<<i) != 0 {
				m.held[place{f.Stream, seq + 2 + i}] = true
			}
		}
	}
}

func (m *model) reopened() *model {
	n := newModel(m.epoch + 1)
	n.taken, n.gone = m.taken, m.gone
	for stream := range n.taken {
		n.taken[stream] = slices.Clone(n.taken[stream])
	}
	return n
}

// run is an agent beside its model.
type run struct {
	agent *courier.Agent
	model *model
}

func (c *run) check(t *testing.T) {
	t.Helper()
	for stream := -1; stream <= api.Streams; stream++ {
		if got, want := c.agent.Spool(stream), c.model.spool(stream); !slices.Equal(got, want) {
			t.Fatalf("P5: Spool(%d) = %q, want %q", stream, got, want)
		}
	}
	if c.agent.Epoch() != c.model.epoch {
		t.Fatalf("P4: Epoch() = %d, want %d", c.agent.Epoch(), c.model.epoch)
	}
	if !bytes.Equal(c.agent.Image(0), c.agent.Image(^uint64(0))) {
		t.Fatal("a call has left something that isn't lasting")
	}
}

// step does one thing with both.
func (c *run) step(t *testing.T, r *rand.Rand) {
	t.Helper()
	m := c.model
	near := func(stream int) int {
		return max(0, m.gone[stream]+r.Intn(8)-2)
	}
	epoch := m.epoch
	if r.Intn(8) == 0 {
		epoch = max(0, m.epoch+r.Intn(3)-1)
	}
	switch k := r.Intn(100); {
	case k < 35:
		stream, body := r.Intn(3), text20[:r.Intn(21)]
		if k < 2 {
			stream, body = r.Intn(9)-3, (text20 + text20)[:r.Intn(25)]
		}
		if got, want := c.agent.Submit(stream, body), m.submit(stream, body); got != want {
			t.Fatalf("P5: Submit(%d, %q) = %d, want %d", stream, body, got, want)
		}
	case k < 65:
		if got, want := c.agent.Tick(), m.ticked(); !slices.EqualFunc(got, want, bytes.Equal) {
			t.Fatalf("P6: Tick() = %v, want %v", got, want)
		}
	case k < 85:
		stream := r.Intn(3)
		f := api.Frame{Kind: api.Ack, Epoch: epoch, Stream: stream, Seq: near(stream), Body: string([]byte{byte(r.Intn(8))})}
		deliver(t, c.agent, bytesOfFrame(f))
		m.deliver(f, nil)
	case k < 91:
		numbers := []int{near(0), near(1), near(2)}
		deliver(t, c.agent, welcomeOf(epoch, numbers...))
		m.deliver(api.Frame{Kind: api.Welcome, Epoch: epoch}, numbers)
	case k < 93:
		f := api.Frame{Kind: api.Reset, Epoch: min(epoch, m.epoch+r.Intn(40)/39)}
		deliver(t, c.agent, bytesOfFrame(f))
		m.deliver(f, nil)
	case k < 95:
		deliver(t, c.agent, dataOf(epoch, 1, near(1)+1, "x"), helloOf(epoch))
	case k < 97:
		b := ackOf(epoch, 1, near(1), 0)
		b[r.Intn(len(b))] ^= 1 << r.Intn(8)
		if e := c.agent.Deliver(b); e != api.ErrFrame {
			t.Fatalf("P7: Deliver(%v) = %d, want ErrFrame", b, e)
		}
	case k < 99:
		c.model = m.reopened()
		c.agent = openAgent(t, c.agent.Image(r.Uint64()), c.model.epoch)
	}
	c.check(t)
}

func TestAgentIsAsItsModel(t *testing.T) {
	for seed := range int64(150) {
		r := rand.New(rand.NewSource(seed))
		c := &run{newAgent(t), newModel(1)}
		for range 400 {
			c.step(t, r)
		}
	}
}

// learn makes the model of an agent of which nothing is known; a record of each stream is the first that it sends of it.
func learn(t *testing.T, a *courier.Agent) *run {
	t.Helper()
	c := &run{a, newModel(a.Epoch())}
	if a.Epoch() < 1 {
		t.Fatalf("P4: Epoch() = %d", a.Epoch())
	}
	total := 0
	for stream := range api.Streams {
		total += len(a.Spool(stream))
	}
	if total > api.Spool {
		t.Fatalf("P4: an agent with %d records", total)
	}
	deliver(t, a, welcomeOf(a.Epoch(), 0, 0, 0))
	c.model.welcome = true
	first := [api.Streams]int{}
	for _, b := range a.Tick() {
		f, _ := courier.Decode(b)
		if f.Kind != api.Data {
			t.Fatalf("P6: welcome, an agent sends %#v", f)
		}
		if first[f.Stream] == 0 {
			first[f.Stream] = f.Seq
		}
	}
	for stream := range api.Streams {
		kept := a.Spool(stream)
		if (first[stream] == 0) != (len(kept) == 0) {
			t.Fatalf("P6: of stream %d are kept %q, sent from %d", stream, kept, first[stream])
		}
		if first[stream] == 0 {
			// Its numbers are asked by a record of it, for which there must be room.
			first[stream] = numberOfNext(t, a, stream)
		}
		if first[stream] > 1<<20 {
			return nil // too many for a model that keeps them all
		}
		c.model.gone[stream] = first[stream] - 1
		c.model.taken[stream] = append(make([]string, first[stream]-1), kept...)
	}
	deliver(t, a, welcomeOf(a.Epoch(), 0, 0, 0))
	c.check(t)
	return c
}

// numberOfNext tells the number of the next record of a stream of which none is kept, from an end opened on the agent's disk.
func numberOfNext(t *testing.T, a *courier.Agent, stream int) int {
	t.Helper()
	b := openAgent(t, a.Image(0), a.Epoch()+1)
	for other := range api.Streams {
		if other != stream && len(b.Spool(other)) > 0 {
			deliver(t, b, welcomeOf(b.Epoch(), 0, 0, 0), ackOf(b.Epoch(), other, api.MaxNumber, 0))
		}
	}
	submit(t, b, stream, "x")
	deliver(t, b, welcomeOf(b.Epoch(), 0, 0, 0))
	for _, frame := range b.Tick() {
		if f, _ := courier.Decode(frame); f.Stream == stream {
			return f.Seq
		}
	}
	t.Fatal("P6: a record isn't sent")
	return 0
}

// checkAnyDisk opens a disk of any bytes: what has come of it must be an agent like others. It tells if there is one.
func checkAnyDisk(t *testing.T, disk []byte, seed int64) bool {
	t.Helper()
	a, e := courier.OpenAgent(disk)
	if e != api.OK {
		if a != nil || e != api.ErrDisk {
			t.Fatalf("P4: OpenAgent: %v, %d", a != nil, e)
		}
		return false
	}
	if a.Epoch() > 1<<30-100 {
		return true // of a disk that is opened still more often nothing is promised
	}
	if c := learn(t, a); c != nil {
		r := rand.New(rand.NewSource(seed))
		for range 60 {
			c.step(t, r)
		}
	}
	return true
}

// lived are images of one agent's disk at several times.
func lived(t *testing.T, r *rand.Rand) [][]byte {
	t.Helper()
	c := &run{newAgent(t), newModel(1)}
	var images [][]byte
	for range 6 {
		for range r.Intn(60) {
			c.step(t, r)
		}
		images = append(images, c.agent.Image(0))
	}
	return images
}

func TestP4DisksOfAnyBytes(t *testing.T) {
	r := rand.New(rand.NewSource(4))
	opened, refused := 0, 0
	try := func(disk []byte) {
		if checkAnyDisk(t, disk, r.Int63()) {
			opened++
		} else {
			refused++
		}
	}
	for range 400 {
		images := lived(t, r)
		image := images[len(images)-1]
		for range 4 {
			disk := slices.Clone(image)
			for range 1 + r.Intn(3) {
				disk[r.Intn(len(disk))] ^= 1 << r.Intn(8)
			}
			try(disk)
			// Sectors of several times, or at other places.
			disk = slices.Clone(image)
			for range 1 + r.Intn(3) {
				from, to := r.Intn(26), r.Intn(26)
				if r.Intn(2) == 0 {
					to = from
				}
				copy(disk[to*64:], images[r.Intn(len(images))][from*64:(from+1)*64])
			}
			try(disk)
			// A sector lost, or half of it.
			disk = slices.Clone(image)
			at := r.Intn(52) * 32
			clear(disk[at : at+32<<r.Intn(2)])
			try(disk)
		}
		r.Read(image)
		try(image)
	}
	if opened < 100 || refused < 100 {
		t.Errorf("of the disks %d were opened and %d refused: too few", opened, refused)
	}
	for fill := range 255 {
		try(bytes.Repeat([]byte{byte(fill + 1)}, api.AgentDisk))
	}
}

func FuzzOpenAgent(f *testing.F) {
	f.Add(make([]byte, api.AgentDisk), int64(0))
	a, _ := courier.OpenAgent(make([]byte, api.AgentDisk))
	a.Submit(0, "a")
	a.Submit(1, text20)
	f.Add(a.Image(0), int64(1))
	b, _ := courier.OpenAgent(a.Image(0))
	b.Deliver(welcomeOf(2, 1, 0, 0))
	f.Add(b.Image(0), int64(2))
	f.Fuzz(func(t *testing.T, disk []byte, seed int64) {
		was := slices.Clone(disk)
		checkAnyDisk(t, disk, seed)
		if !bytes.Equal(disk, was) {
			t.Fatal("P2: OpenAgent wrote into its disk")
		}
	})
}

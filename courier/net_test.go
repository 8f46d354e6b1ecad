package courier_test

import (
	"fmt"
	"math/rand"
	"slices"
	"strconv"
	"testing"

	"courier/api"
	"courier/courier"
)

// The document's example: an agent and a sink together, and then the agent's disk opened again.
func TestExampleOfBoth(t *testing.T) {
	a, s := newAgent(t), newSink(t)
	submit(t, a, 0, "a", "b")
	wantTick(t, a, helloOf(1))
	wantAnswer(t, s, helloOf(1), welcomeOf(1, 0, 0, 0))
	deliver(t, a, welcomeOf(1, 0, 0, 0))
	wantTick(t, a, dataOf(1, 0, 1, "a"), dataOf(1, 0, 2, "b"))
	wantTick(t, a)
	wantAnswer(t, s, dataOf(1, 0, 2, "b"), ackOf(1, 0, 0, 1))
	deliver(t, a, ackOf(1, 0, 0, 1))
	wantTicks(t, 2, a)
	wantTick(t, a, dataOf(1, 0, 1, "a"))
	wantAnswer(t, s, dataOf(1, 0, 1, "a"), ackOf(1, 0, 2, 0))
	wantLogs(t, s, [api.Streams][]string{{"a", "b"}})
	deliver(t, a, ackOf(1, 0, 2, 0))
	wantSpool(t, a, 0)

	submit(t, a, 0, "c")
	b := openAgent(t, a.Image(0), 2)
	wantAnswer(t, s, dataOf(1, 0, 3, "c"), ackOf(1, 0, 3, 0))
	wantTick(t, b, helloOf(2))
	wantAnswer(t, s, helloOf(2), welcomeOf(2, 3, 0, 0))
	wantAnswer(t, s, dataOf(1, 0, 3, "c"), resetOf(2))
	deliver(t, a, resetOf(2))
	wantTicks(t, 5, a)
}

// net is an agent and a sink, and the frames between them, which stay in it: they may come late, and again.
type net struct {
	rand     *rand.Rand
	agent    *courier.Agent
	elders   []*courier.Agent // of the same disk, opened earlier: they take no records any more
	sink     *courier.Sink
	up, down [][]byte
	taken    [api.Streams][]string
	total    int
	bodies   int // that were ever handed in: each is another one
	log      [api.Streams]int
	failing  bool           // the disks fail now and then
	crashes  map[string]int // how often, by what was done
}

func newNet(t *testing.T, seed int64) *net {
	t.Helper()
	return &net{rand: rand.New(rand.NewSource(seed)), agent: newAgent(t), sink: newSink(t), crashes: map[string]int{}}
}

func (n *net) check(t *testing.T) {
	t.Helper()
	for stream, taken := range n.taken {
		log := n.sink.Log(stream)
		if len(log) > len(taken) || !slices.Equal(log, taken[:len(log)]) {
			t.Fatalf("P11: Log(%d) = %q, taken are %q", stream, log, taken)
		}
		if len(log) < n.log[stream] {
			t.Fatalf("P11: Log(%d) = %q, there were %d", stream, log, n.log[stream])
		}
		n.log[stream] = len(log)
		spool := n.agent.Spool(stream)
		if len(spool) > len(taken) || !slices.Equal(spool, taken[len(taken)-len(spool):]) || len(log)+len(spool) < len(taken) {
			t.Fatalf("P11: Log(%d) = %q, Spool(%d) = %q, taken are %q", stream, log, stream, spool, taken)
		}
	}
}

// crashed tells if a disk has failed, which it may only in a net whose disks fail.
func (n *net) crashed(t *testing.T, what string, e api.Errno) bool {
	t.Helper()
	if e == api.ErrCrash && n.failing {
		n.crashes[what]++
		return true
	}
	return false
}

func (n *net) submit(t *testing.T) {
	t.Helper()
	stream, body := n.rand.Intn(3), strconv.Itoa(n.bodies)
	n.bodies++
	e := n.agent.Submit(stream, body)
	taken := e == api.OK
	if n.crashed(t, "Submit", e) {
		n.openAgent(t)
		taken = slices.Contains(n.agent.Spool(stream), body)
	} else if e != api.OK && e != api.ErrFull {
		t.Fatalf("P5: Submit = %d", e)
	}
	if taken {
		n.taken[stream] = append(n.taken[stream], body)
		n.total++
	}
	n.check(t)
}

// openAgent opens the agent's disk as it is, or is since it has failed.
func (n *net) openAgent(t *testing.T) {
	t.Helper()
	n.agent = openAgent(t, n.agent.Image(n.rand.Uint64()), n.agent.Epoch()+1)
}

// openSink opens the sink's disk, which has failed when a frame came.
func (n *net) openSink(t *testing.T, f api.Frame) {
	t.Helper()
	s, e := courier.OpenSink(n.sink.Image(n.rand.Uint64()))
	if e != api.OK || s.Epoch() != n.sink.Epoch() && (f.Kind != api.Hello || s.Epoch() != f.Epoch) {
		t.Fatalf("P10: behind a failure at %#v: OpenSink: %d", f, e)
	}
	n.sink = s
}

// arm has one of the disks fail soon, or not any more.
func (n *net) arm() {
	if n.rand.Intn(2) == 0 {
		n.agent.Arm(n.rand.Intn(6) - 1)
	} else {
		n.sink.Arm(n.rand.Intn(10) - 1)
	}
}

// spoilt is what has come of a frame that is no frame any more.
func (n *net) spoilt(frame []byte) []byte {
	for {
		b := slices.Clone(frame)
		switch n.rand.Intn(3) {
		case 0:
			b[n.rand.Intn(len(b))] ^= 1 << n.rand.Intn(8)
		case 1:
			b = b[:n.rand.Intn(len(b))]
		case 2:
			b = append(b, byte(n.rand.Int()))
		}
		if _, e := courier.Decode(b); e == api.ErrFrame {
			return b
		}
	}
}

// pick takes one of the frames: one of the last ones, or any that was ever sent.
func (n *net) pick(frames [][]byte) []byte {
	if n.rand.Intn(6) == 0 {
		return frames[n.rand.Intn(len(frames))]
	}
	return frames[max(0, len(frames)-1-n.rand.Intn(10))]
}

// deliverUp has one frame, if any was sent, come to the sink.
func (n *net) deliverUp(t *testing.T) {
	t.Helper()
	if len(n.up) == 0 {
		return
	}
	frame := n.pick(n.up)
	if n.rand.Intn(5) == 0 {
		wantUnanswered(t, n.sink, n.spoilt(frame))
	} else {
		answers, e := n.sink.Deliver(frame)
		f, _ := courier.Decode(frame)
		if n.crashed(t, fmt.Sprintf("sink, frame of kind %d", f.Kind), e) {
			n.openSink(t, f)
		} else if e != api.OK {
			t.Fatalf("P8: Deliver(%v) = %d", frame, e)
		}
		n.down = append(n.down, answers...)
	}
	n.check(t)
}

// deliverDown has one frame, if any was answered, come to the agent, or to one that is older.
func (n *net) deliverDown(t *testing.T) {
	t.Helper()
	if len(n.down) == 0 {
		return
	}
	frame, agent := n.pick(n.down), n.agent
	if len(n.elders) > 0 && n.rand.Intn(3) == 0 {
		agent = n.elders[n.rand.Intn(len(n.elders))]
	}
	if n.rand.Intn(5) == 0 {
		if e := agent.Deliver(n.spoilt(frame)); e != api.ErrFrame && !(e == api.ErrDead && n.failing && agent != n.agent) {
			t.Fatalf("P7: Deliver of what is no frame = %d", e)
		}
		return
	}
	f, _ := courier.Decode(frame)
	e := agent.Deliver(frame)
	switch {
	case !n.crashed(t, fmt.Sprintf("agent, frame of kind %d", f.Kind), e):
		if e != api.OK && !(e == api.ErrDead && n.failing && agent != n.agent) {
			t.Fatalf("P7: Deliver(%v) = %d", frame, e)
		}
	case agent == n.agent:
		n.elders = append(n.elders, agent) // a dead one
		n.openAgent(t)
	}
	n.check(t)
}

func (n *net) tick() {
	n.up = append(n.up, n.agent.Tick()...)
	for _, a := range n.elders {
		n.up = append(n.up, a.Tick()...)
	}
}

func (n *net) reopen(t *testing.T) {
	t.Helper()
	if n.rand.Intn(2) == 0 {
		n.sink = openSink(t, n.sink.Image(n.rand.Uint64()), n.sink.Epoch())
		n.check(t)
		return
	}
	n.elders = append(n.elders, n.agent)
	n.openAgent(t)
	n.check(t)
}

// settle lets frames through in their order, till nothing is left to be sent or so many ticks have passed.
func (n *net) settle(t *testing.T, ticks int) {
	t.Helper()
	n.agent.Arm(0)
	n.sink.Arm(0)
	for range ticks {
		for _, frame := range n.agent.Tick() {
			answers, e := n.sink.Deliver(frame)
			if e != api.OK {
				t.Fatalf("P8: Deliver(%v) = %d", frame, e)
			}
			deliver(t, n.agent, answers...)
			n.check(t)
		}
	}
}

// live has an agent and a sink go through many things, and tells how many records were committed at last.
func (n *net) live(t *testing.T, records, reopenings int) {
	t.Helper()
	for range 800 {
		if n.total < records && n.rand.Intn(3) == 0 {
			n.submit(t)
		}
		n.tick()
		for range n.rand.Intn(6) {
			n.deliverUp(t)
		}
		for range n.rand.Intn(6) {
			n.deliverDown(t)
		}
		if n.rand.Intn(800) < reopenings {
			n.reopen(t)
		}
		if n.failing && n.rand.Intn(8) == 0 {
			n.arm()
		}
	}
}

func (n *net) wantAll(t *testing.T) {
	t.Helper()
	wantLogs(t, n.sink, n.taken)
	for stream := range api.Streams {
		wantSpool(t, n.agent, stream)
	}
}

// Frames are lost, doubled, late and spoilt; in the end all records are there.
func TestP11BadNetwork(t *testing.T) {
	for seed := range int64(40) {
		n := newNet(t, seed)
		n.live(t, 120, 0)
		n.settle(t, 40)
		n.wantAll(t)
	}
}

// And either end's disk is opened again, while elder agents still send.
func TestP11EndsOpenedAgain(t *testing.T) {
	for seed := range int64(40) {
		n := newNet(t, seed)
		n.live(t, 120, 1+int(seed)%12)
		n.settle(t, 40)
		n.wantAll(t)
	}
}

// And the disks of both ends fail at any write, and are opened again whatever is kept of them.
func TestP11DisksThatFail(t *testing.T) {
	crashes := map[string]int{}
	for seed := range int64(120) {
		n := newNet(t, seed)
		n.failing = true
		n.live(t, 120, int(seed)%8)
		n.settle(t, 40)
		n.wantAll(t)
		for what, times := range n.crashes {
			crashes[what] += times
		}
	}
	for _, what := range []string{"Submit", "agent, frame of kind 2", "agent, frame of kind 4", "sink, frame of kind 1", "sink, frame of kind 3"} {
		if crashes[what] < 20 {
			t.Errorf("%s: the disk has failed %d times: too few", what, crashes[what])
		}
	}
	if len(crashes) != 5 {
		t.Errorf("P10: disks have failed where nothing is written: %v", crashes)
	}
}

// More records than a sink commits: the first ones are there, and the rest stays kept.
func TestP11MoreThanTheLogHas(t *testing.T) {
	for seed := range int64(40) {
		n := newNet(t, seed)
		n.failing = seed%2 == 0
		n.live(t, 140, int(seed)%4)
		n.settle(t, 40)
		committed := 0
		for stream, taken := range n.taken {
			log := n.sink.Log(stream)
			wantSpool(t, n.agent, stream, taken[len(log):]...)
			committed += len(log)
		}
		if committed != min(n.total, api.Log) {
			t.Errorf("P11: of %d records %d are committed", n.total, committed)
		}
	}
}

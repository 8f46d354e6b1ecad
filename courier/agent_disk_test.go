package courier_test

import (
	"bytes"
	"math"
	"slices"
	"testing"

	"courier/api"
	"courier/courier"
)

// someKeeps are noughts, ones, single bits, and mixed ones.
func someKeeps() []uint64 {
	keeps := []uint64{0, math.MaxUint64, 0x5555555555555555, 0xaaaaaaaaaaaaaaaa, 0x9e3779b97f4a7c15}
	for bit := range 64 {
		keeps = append(keeps, 1<<bit)
	}
	return keeps
}

// noArms are those by which a disk doesn't fail.
var noArms = []int{0, -1, -2, math.MinInt32, math.MinInt}

func wantDeadAgent(t *testing.T, a *courier.Agent, epoch int) {
	t.Helper()
	if a.Epoch() != epoch {
		t.Errorf("P10: a dead agent's Epoch() = %d, want %d", a.Epoch(), epoch)
	}
	for stream := -1; stream <= api.Streams; stream++ {
		if got := a.Spool(stream); len(got) != 0 {
			t.Errorf("P10: a dead agent's Spool(%d) = %q", stream, got)
		}
		for _, body := range []string{"", "x", text20, text20 + "1"} {
			if e := a.Submit(stream, body); e != api.ErrDead {
				t.Errorf("P10: a dead agent's Submit(%d, %q) = %d, want ErrDead", stream, body, e)
			}
		}
	}
	for _, frame := range [][]byte{nil, {1}, welcomeOf(epoch, 0, 0, 0), welcomeOf(epoch, 9, 9, 9), ackOf(epoch, 0, 9, 0), resetOf(epoch), resetOf(epoch + 1), dataOf(epoch, 0, 1, "x")} {
		if e := a.Deliver(frame); e != api.ErrDead {
			t.Errorf("P10: a dead agent's Deliver(%v) = %d, want ErrDead", frame, e)
		}
	}
	for range 5 {
		if got := a.Tick(); len(got) != 0 {
			t.Errorf("P10: a dead agent's Tick() = %v", got)
		}
	}
}

// busy is an agent of Epoch 3 that is welcome, has had records, and keeps some of each stream.
func busy(t *testing.T) *courier.Agent {
	t.Helper()
	a := welcomed(t, "a", "b", "c")
	a = openAgent(t, a.Image(0), 2)
	submit(t, a, 1, "k", "l")
	a = openAgent(t, a.Image(0), 3)
	submit(t, a, 2, text20, "")
	deliver(t, a, welcomeOf(3, 1, 0, 1), ackOf(3, 0, 1, 2))
	return a
}

// busySpools are what a busy agent keeps; gone are the first records of stream 0 and of stream 2.
func busySpools() [api.Streams][]string { return [api.Streams][]string{{"b", "c"}, {"k", "l"}, {""}} }

func spoolsOf(a *courier.Agent) [api.Streams][]string {
	var spools [api.Streams][]string
	for stream := range spools {
		spools[stream] = a.Spool(stream)
	}
	return spools
}

func equalLists(a, b [api.Streams][]string) bool {
	return slices.Equal(a[0], b[0]) && slices.Equal(a[1], b[1]) && slices.Equal(a[2], b[2])
}

func with(lists [api.Streams][]string, stream int, bodies ...string) [api.Streams][]string {
	lists[stream] = bodies
	return lists
}

// agentCall is a call that writes, and what a busy agent keeps behind it.
type agentCall struct {
	name   string
	call   func(*courier.Agent) api.Errno
	behind [api.Streams][]string
}

func agentCalls() []agentCall {
	frame := func(name string, b []byte, behind [api.Streams][]string) agentCall {
		return agentCall{name, func(a *courier.Agent) api.Errno { return a.Deliver(b) }, behind}
	}
	was := busySpools()
	return []agentCall{
		{"a Submit", func(a *courier.Agent) api.Errno { return a.Submit(0, text20) }, with(was, 0, "b", "c", text20)},
		{"a Submit of nothing", func(a *courier.Agent) api.Errno { return a.Submit(2, "") }, with(was, 2, "", "")},
		frame("a Welcome of all streams", welcomeOf(3, 3, 1, 2), [api.Streams][]string{nil, {"l"}, nil}),
		frame("a Welcome of two streams", welcomeOf(3, 2, 0, 9), [api.Streams][]string{{"c"}, {"k", "l"}, nil}),
		frame("an Ack of one record", ackOf(3, 0, 2, 0), with(was, 0, "c")),
		frame("an Ack of all records", ackOf(3, 1, 7, 7), with(was, 1)),
	}
}

// In whichever write of a call the disk fails, what the call does is there wholly or not.
func TestP10AgentFailsAtEveryWrite(t *testing.T) {
	for _, c := range agentCalls() {
		crashes := 0
		for n := 1; ; n++ {
			a := busy(t)
			a.Arm(n)
			if e := c.call(a); e == api.OK {
				wantLasting(t, a, c.behind)
				break
			} else if e != api.ErrCrash {
				t.Fatalf("P10: %s with write %d armed = %d, want ErrCrash", c.name, n, e)
			}
			crashes++
			wantDeadAgent(t, a, 3)
			for _, keep := range someKeeps() {
				b := openAgent(t, a.Image(keep), 4)
				if got := spoolsOf(b); !equalLists(got, busySpools()) && !equalLists(got, c.behind) {
					t.Errorf("P10: %s, failed at write %d, kept %x: Spools are %q", c.name, n, keep, got)
				}
			}
		}
		if crashes == 0 {
			t.Errorf("P10: %s is lasting, but the disk hasn't failed at its first write", c.name)
		}
	}
}

// writesOf tells how many writes a call of a busy agent makes.
func writesOf(t *testing.T, c agentCall) int {
	t.Helper()
	for n := 1; ; n++ {
		a := busy(t)
		a.Arm(n)
		if c.call(a) == api.OK {
			return n - 1
		}
	}
}

// An Arm counts the writes of one call and of the next ones.
func TestP10ArmIsReachedInALaterCall(t *testing.T) {
	for _, c := range agentCalls() {
		last := writesOf(t, c)
		a := busy(t)
		a.Arm(last)
		if e := c.call(a); e != api.ErrCrash {
			t.Errorf("P10: %s with its last write armed = %d, want ErrCrash", c.name, e)
		}
		a = busy(t)
		a.Arm(last + 1)
		if e := c.call(a); e != api.OK {
			t.Fatalf("P10: %s with a write behind it armed = %d", c.name, e)
		}
		wantSubmit(t, a, 1, "m", api.ErrCrash)
		for _, keep := range someKeeps() {
			got, with := spoolsOf(openAgent(t, a.Image(keep), 4)), c.behind
			with[1] = append(slices.Clone(with[1]), "m")
			if !equalLists(got, c.behind) && !equalLists(got, with) {
				t.Errorf("P10: %s isn't lasting: Spools are %q", c.name, got)
			}
		}
	}
}

// A disk fails neither in questions nor in calls that are refused or change nothing, however near the write is.
func TestP10NoWriteNoFailure(t *testing.T) {
	a := busy(t)
	a.Arm(1)
	for _, stream := range noStreams {
		wantSubmit(t, a, stream, "x", api.ErrStream)
	}
	wantSubmit(t, a, 0, text20+"1", api.ErrBody)
	for n := range 30 {
		if got := spoolsOf(a); !equalLists(got, busySpools()) || a.Epoch() != 3 || len(a.Image(uint64(n))) != api.AgentDisk {
			t.Fatalf("P10: an armed agent keeps %q", got)
		}
		a.Tick()
	}
	for _, frame := range [][]byte{nil, {1, 2, 3}, withSum([]byte{9, 9})} {
		if e := a.Deliver(frame); e != api.ErrFrame {
			t.Errorf("P7: Deliver(%v) = %d, want ErrFrame", frame, e)
		}
	}
	deliver(t, a, helloOf(3), dataOf(3, 0, 1, "x"), resetOf(2), welcomeOf(2, 9, 9, 9), ackOf(2, 0, 3, 0), ackOf(3, 0, 0, 0))
	deliver(t, a, welcomeOf(3, 1, 0, 0), ackOf(3, 0, 1, 7), ackOf(3, 1, 0, 0), resetOf(3), ackOf(3, 0, 3, 0), resetOf(4))
	wantSubmit(t, a, 0, "x", api.ErrCrash)
	wantDeadAgent(t, a, 3)
}

func TestP10ArmsThatDontFail(t *testing.T) {
	for _, n := range append(noArms, math.MaxInt, math.MaxInt32, 1000) {
		a := newAgent(t)
		a.Arm(n)
		for i := range 100 {
			submit(t, a, i%3, "x")
			deliver(t, a, welcomeOf(1, (i+3)/3, (i+2)/3, (i+1)/3))
		}
		submit(t, a, 0, "y")
		wantLasting(t, a, [api.Streams][]string{{"y"}})
	}
}

// An Arm takes the place of an earlier one, and counts anew.
func TestP10ArmTakesThePlaceOfAnother(t *testing.T) {
	call := agentCalls()[0]
	last := writesOf(t, call)
	for _, n := range noArms {
		a := busy(t)
		a.Arm(1)
		a.Arm(n)
		for range 10 {
			wantSubmit(t, a, 0, "x", api.OK)
		}
	}
	a := busy(t)
	a.Arm(1)
	a.Arm(last + 1)
	wantSubmit(t, a, 0, "x", api.OK)
	wantSubmit(t, a, 0, "y", api.ErrCrash)
	a = busy(t)
	a.Arm(100)
	a.Arm(last)
	wantSubmit(t, a, 0, "x", api.ErrCrash)
	a = busy(t)
	for range 10 {
		a.Arm(last + 1)
		wantSubmit(t, a, 0, "x", api.OK)
	}
	wantSubmit(t, a, 0, "y", api.ErrCrash)
	a = busy(t)
	a.Arm(-5)
	a.Arm(1)
	wantSubmit(t, a, 0, "x", api.ErrCrash)
}

// end is what agents and sinks have in common.
type end interface {
	Image(keep uint64) []byte
	Arm(n int)
}

func imagesOf(e end) [][]byte {
	var images [][]byte
	for _, keep := range someKeeps() {
		images = append(images, e.Image(keep))
	}
	return images
}

// wantDeadDisk asks if the Images of a dead end stay what they are, whatever is armed, asked of it, and written into others.
func wantDeadDisk(t *testing.T, e end, ask func()) {
	t.Helper()
	images, others := imagesOf(e), imagesOf(e)
	for _, n := range append(noArms, 1, 2, 100, math.MaxInt) {
		e.Arm(n)
		ask()
		if !slices.EqualFunc(imagesOf(e), images, bytes.Equal) {
			t.Errorf("P10: the Image of a dead end has changed behind Arm(%d)", n)
		}
	}
	for _, image := range others {
		scribble(image)
		clear(image[:cap(image)])
	}
	if now := imagesOf(e); !slices.EqualFunc(now, images, bytes.Equal) || bytes.Equal(now[0], others[0]) {
		t.Error("P2: the Image of a dead end has changed with those that came before")
	}
}

// A dead end stays so: an Arm does nothing to it, and its disk is no longer written.
func TestP10ArmOfADeadAgent(t *testing.T) {
	for _, c := range agentCalls() {
		a := busy(t)
		a.Arm(1)
		if e := c.call(a); e != api.ErrCrash {
			t.Fatalf("P10: %s = %d, want ErrCrash", c.name, e)
		}
		wantDeadDisk(t, a, func() { wantDeadAgent(t, a, 3) })
	}
}

// An agent that is opened on an Image of a dead one doesn't write into that, nor onto the dead one's disk.
func TestP2DeadAgentsAreApart(t *testing.T) {
	a := busy(t)
	a.Arm(1)
	wantSubmit(t, a, 0, "x", api.ErrCrash)
	image := a.Image(1)
	was := slices.Clone(image)
	b := openAgent(t, image, 4)
	submit(t, b, 0, "y")
	if !bytes.Equal(image, was) || !bytes.Equal(a.Image(1), was) || bytes.Equal(b.Image(1), was) {
		t.Error("P2: an agent wrote where it should not")
	}
}

// What fails is one end's disk: not one that was opened on its Image, or from whose Image it was opened.
func TestP10ArmIsOfOneAgent(t *testing.T) {
	a := busy(t)
	disk := a.Image(0)
	b, c := openAgent(t, disk, 4), openAgent(t, disk, 4)
	b.Arm(1)
	wantSubmit(t, a, 0, "x", api.OK)
	wantSubmit(t, c, 0, "y", api.OK)
	wantSubmit(t, b, 0, "z", api.ErrCrash)
	wantSubmit(t, a, 0, "x", api.OK)
	wantSubmit(t, c, 0, "y", api.OK)
	d := openAgent(t, b.Image(0), 5)
	wantSubmit(t, d, 0, "d", api.OK)
	wantSubmit(t, d, 0, "d", api.OK)
	wantLasting(t, c, with(busySpools(), 0, "b", "c", "y", "y"))
	wantDeadAgent(t, b, 4)
}

// An agent that is opened behind a failure is like any that is opened: not welcome, nothing held, and its numbers go on.
func TestP10OpenedBehindAFailure(t *testing.T) {
	a := busy(t)
	deliver(t, a, resetOf(9)) // a fenced one's disk may fail too
	a.Arm(1)
	wantSubmit(t, a, 0, "x", api.ErrCrash)
	b := openAgent(t, a.Image(0), 4)
	wantTicks(t, 2, b, helloOf(4))
	deliver(t, b, welcomeOf(3, 9, 9, 9), ackOf(4, 1, 2, 0))
	wantTick(t, b, helloOf(4))
	deliver(t, b, welcomeOf(4, 0, 0, 0))
	kept := b.Spool(0)
	var want [][]byte
	for i, body := range kept {
		want = append(want, dataOf(4, 0, i+2, body))
	}
	want = append(want, dataOf(4, 1, 1, "k"), dataOf(4, 1, 2, "l"), dataOf(4, 2, 2, ""))
	wantTick(t, b, want...)
	wantSubmit(t, b, 0, "n", api.OK)
	wantLasting(t, b, with(busySpools(), 0, append(kept, "n")...))
}

// An Image opened, and that one's again, whatever is kept: each has what was lasting.
func TestP10ImagesOfImages(t *testing.T) {
	a := busy(t)
	want := busySpools()
	for i, keep := range someKeeps() {
		a = openAgent(t, a.Image(keep), 4+i)
		if got := spoolsOf(a); !equalLists(got, want) {
			t.Fatalf("P10: Spools are %q, want %q", got, want)
		}
		wantTick(t, a, helloOf(4+i))
		switch i % 3 {
		case 0:
			submit(t, a, 1, "more")
			want[1] = append(want[1], "more")
		case 1:
			deliver(t, a, welcomeOf(4+i, 0, i/3+1, 0))
			want[1] = want[1][1:]
		}
	}
}

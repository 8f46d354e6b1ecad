package courier_test

import (
	"bytes"
	"encoding/binary"
	"math"
	"slices"
	"strings"
	"testing"

	"courier/api"
	"courier/courier"
)

const text20 = "12345678901234567890"

var noStreams = []int{math.MinInt, -1, api.Streams, 255, 1 << 32, math.MaxInt}

func helloOf(epoch int) []byte { return bytesOfFrame(api.Frame{Kind: api.Hello, Epoch: epoch}) }

func resetOf(epoch int) []byte { return bytesOfFrame(api.Frame{Kind: api.Reset, Epoch: epoch}) }

func welcomeOf(epoch int, numbers ...int) []byte {
	var body []byte
	for _, n := range numbers {
		body = binary.LittleEndian.AppendUint32(body, uint32(n))
	}
	return bytesOfFrame(api.Frame{Kind: api.Welcome, Epoch: epoch, Body: string(body)})
}

func dataOf(epoch, stream, seq int, body string) []byte {
	return bytesOfFrame(api.Frame{Kind: api.Data, Epoch: epoch, Stream: stream, Seq: seq, Body: body})
}

func ackOf(epoch, stream, seq int, bits byte) []byte {
	return bytesOfFrame(api.Frame{Kind: api.Ack, Epoch: epoch, Stream: stream, Seq: seq, Body: string([]byte{bits})})
}

func openAgent(t *testing.T, disk []byte, epoch int) *courier.Agent {
	t.Helper()
	a, e := courier.OpenAgent(disk)
	if a == nil || e != api.OK {
		t.Fatalf("P4: OpenAgent: %v, %d, want an agent", a != nil, e)
	}
	if a.Epoch() != epoch {
		t.Fatalf("P4: Epoch() = %d, want %d", a.Epoch(), epoch)
	}
	return a
}

func newAgent(t *testing.T) *courier.Agent {
	t.Helper()
	return openAgent(t, make([]byte, api.AgentDisk), 1)
}

// welcomed is a new agent that is welcome and has these records of stream 0.
func welcomed(t *testing.T, bodies ...string) *courier.Agent {
	t.Helper()
	a := newAgent(t)
	submit(t, a, 0, bodies...)
	deliver(t, a, welcomeOf(1, 0, 0, 0))
	return a
}

func submit(t *testing.T, a *courier.Agent, stream int, bodies ...string) {
	t.Helper()
	for _, body := range bodies {
		if e := a.Submit(stream, body); e != api.OK {
			t.Fatalf("P5: Submit(%d, %q) = %d", stream, body, e)
		}
	}
}

func deliver(t *testing.T, a *courier.Agent, frames ...[]byte) {
	t.Helper()
	for _, b := range frames {
		if e := a.Deliver(b); e != api.OK {
			t.Fatalf("P7: Deliver(%v) = %d", b, e)
		}
	}
}

func wantSubmit(t *testing.T, a *courier.Agent, stream int, body string, want api.Errno) {
	t.Helper()
	if e := a.Submit(stream, body); e != want {
		t.Errorf("P5: Submit(%d, %q) = %d, want %d", stream, body, e, want)
	}
}

func wantSpool(t *testing.T, a *courier.Agent, stream int, want ...string) {
	t.Helper()
	if got := a.Spool(stream); !slices.Equal(got, want) {
		t.Errorf("Spool(%d) = %q, want %q", stream, got, want)
	}
}

func wantTick(t *testing.T, a *courier.Agent, want ...[]byte) {
	t.Helper()
	if got := a.Tick(); !slices.EqualFunc(got, want, bytes.Equal) {
		t.Errorf("P6: Tick() = %v, want %v", got, want)
	}
}

func wantTicks(t *testing.T, n int, a *courier.Agent, want ...[]byte) {
	t.Helper()
	for range n {
		wantTick(t, a, want...)
	}
}

// wantLasting asks what an end has that is opened on the disk of this one, when all writes that aren't lasting are lost.
func wantLasting(t *testing.T, a *courier.Agent, spools [api.Streams][]string) *courier.Agent {
	t.Helper()
	b := openAgent(t, a.Image(0), a.Epoch()+1)
	for stream, want := range spools {
		wantSpool(t, a, stream, want...)
		wantSpool(t, b, stream, want...)
	}
	return b
}

func TestP4Sizes(t *testing.T) {
	for _, n := range []int{0, 1, 63, 64, 128, api.AgentDisk - 64, api.AgentDisk - 1, api.AgentDisk + 1, api.AgentDisk + 64, api.SinkDisk, 1 << 20} {
		for _, fill := range []byte{0, 1, 0xff} {
			if a, e := courier.OpenAgent(bytes.Repeat([]byte{fill}, n)); a != nil || e != api.ErrDisk {
				t.Errorf("P4: OpenAgent of %d bytes: %v, %d, want ErrDisk", n, a != nil, e)
			}
		}
	}
	if a, e := courier.OpenAgent(nil); a != nil || e != api.ErrDisk {
		t.Errorf("P4: OpenAgent(nil): %v, %d, want ErrDisk", a != nil, e)
	}
	image := newAgent(t).Image(0)
	for _, disk := range [][]byte{image[:len(image)-1], image[64:], append(image, 0), slices.Concat(image, image)} {
		if a, e := courier.OpenAgent(disk); a != nil || e != api.ErrDisk {
			t.Errorf("P4: OpenAgent of an image with %d bytes: %v, %d, want ErrDisk", len(disk), a != nil, e)
		}
	}
}

func TestP4Noughts(t *testing.T) {
	a := newAgent(t)
	for stream := range api.Streams {
		wantSpool(t, a, stream)
	}
	wantTick(t, a, helloOf(1))
	if image := a.Image(0); len(image) != api.AgentDisk {
		t.Errorf("P4: an image has %d bytes", len(image))
	}
}

func TestP4EveryOpeningCounts(t *testing.T) {
	disk := make([]byte, api.AgentDisk)
	for epoch := 1; epoch <= 600; epoch++ {
		a := openAgent(t, disk, epoch)
		wantTick(t, a, helloOf(epoch))
		if epoch%3 == 0 && epoch < 60 {
			submit(t, a, epoch%2, "x")
		}
		disk = a.Image(0)
	}
	if a := openAgent(t, disk, 601); len(a.Spool(0)) != 9 || len(a.Spool(1)) != 10 {
		t.Errorf("P4: after 600 openings: %q, %q", a.Spool(0), a.Spool(1))
	}
}

// Of one disk there may be many images; each opening counts on from its own.
func TestP4OlderImage(t *testing.T) {
	first := newAgent(t)
	submit(t, first, 0, "a")
	older := first.Image(0)
	submit(t, first, 0, "b")
	newer := first.Image(0)
	second := openAgent(t, openAgent(t, newer, 2).Image(0), 3)
	again := openAgent(t, older, 2)
	wantSpool(t, first, 0, "a", "b")
	wantSpool(t, second, 0, "a", "b")
	wantSpool(t, again, 0, "a")
	submit(t, again, 0, "c")
	wantSpool(t, again, 0, "a", "c")
	wantSpool(t, first, 0, "a", "b")
}

// The example: an agent is opened again, and neither has its welcome nor is fenced; its records and their numbers are as they were.
func TestP4OpenedAgain(t *testing.T) {
	a := welcomed(t, "a", "b")
	wantTick(t, a, dataOf(1, 0, 1, "a"), dataOf(1, 0, 2, "b"))
	deliver(t, a, ackOf(1, 0, 1, 0), resetOf(2))
	b := openAgent(t, a.Image(0), 2)
	wantTicks(t, 2, b, helloOf(2))
	deliver(t, b, welcomeOf(1, 9, 9, 9), ackOf(2, 0, 2, 0))
	wantTick(t, b, helloOf(2))
	submit(t, b, 0, "c")
	deliver(t, b, welcomeOf(2, 0, 0, 0))
	wantTick(t, b, dataOf(2, 0, 2, "b"), dataOf(2, 0, 3, "c"))
	wantTicks(t, 4, a)
}

// Also when no record of a stream is kept any more, the next one has the next number.
func TestP4NumbersGoOn(t *testing.T) {
	a := welcomed(t, "a", "b", "c")
	submit(t, a, 2, "x")
	deliver(t, a, ackOf(1, 0, 3, 0), ackOf(1, 2, 1, 0))
	b := wantLasting(t, a, [api.Streams][]string{})
	submit(t, b, 0, "d")
	submit(t, b, 1, "y")
	submit(t, b, 2, "z")
	c := wantLasting(t, b, [api.Streams][]string{{"d"}, {"y"}, {"z"}})
	deliver(t, c, welcomeOf(3, 0, 0, 0))
	wantTick(t, c, dataOf(3, 0, 4, "d"), dataOf(3, 1, 1, "y"), dataOf(3, 2, 2, "z"))
}

func TestP5Submit(t *testing.T) {
	a := newAgent(t)
	for _, stream := range noStreams {
		wantSubmit(t, a, stream, "", api.ErrStream)
		wantSubmit(t, a, stream, text20+"1", api.ErrStream)
		wantSpool(t, a, stream)
	}
	for stream := range api.Streams {
		for _, body := range []string{text20 + "1", text20 + text20, strings.Repeat("\x00", 21), strings.Repeat("é", 11), strings.Repeat("x", 1<<20)} {
			wantSubmit(t, a, stream, body, api.ErrBody)
		}
		wantSpool(t, a, stream)
	}
	bodies := []string{text20, "", "\x00", "\xff\xfe", "é世", strings.Repeat("\x00", 20), strings.Repeat("\xff", 20), ""}
	for stream := range api.Streams {
		submit(t, a, stream, bodies[stream:]...)
		wantSpool(t, a, stream, bodies[stream:]...)
	}
	wantLasting(t, a, [api.Streams][]string{bodies, bodies[1:], bodies[2:]})
}

// Every length of body, each lasting by itself.
func TestP5EveryLength(t *testing.T) {
	a := newAgent(t)
	for n := range 40 {
		body := strings.Repeat("z", n)
		if n > 20 {
			wantSubmit(t, a, 1, body, api.ErrBody)
			continue
		}
		submit(t, a, 1, body)
		if got := openAgent(t, a.Image(0), 2).Spool(1); len(got) != n+1 || got[n] != body {
			t.Fatalf("P5: a record of %d bytes isn't lasting: %q", n, got)
		}
	}
}

func TestP5Full(t *testing.T) {
	for _, streams := range [][]int{{0}, {1}, {2}, {0, 1, 2}, {2, 0}} {
		a := newAgent(t)
		for i := range api.Spool {
			submit(t, a, streams[i%len(streams)], "x")
		}
		before := a.Image(0)
		for stream := range api.Streams {
			wantSubmit(t, a, stream, "y", api.ErrFull)
			wantSubmit(t, a, stream, text20+"1", api.ErrBody)
		}
		wantSubmit(t, a, 3, text20+"1", api.ErrStream)
		if !bytes.Equal(a.Image(0), before) {
			t.Error("P1: a Submit that was refused changed the disk")
		}
		b := openAgent(t, a.Image(0), 2)
		wantSubmit(t, b, 0, "y", api.ErrFull)
		deliver(t, a, welcomeOf(1, 0, 0, 0), ackOf(1, streams[0], 1, 0))
		submit(t, a, 1, "y")
		wantSubmit(t, a, 1, "z", api.ErrFull)
		wantSubmit(t, openAgent(t, a.Image(0), 2), 1, "z", api.ErrFull)
	}
}

// More records than the disk has places for, each let go as late as may be.
func TestP5PlacesAreUsedAgain(t *testing.T) {
	a := newAgent(t)
	deliver(t, a, welcomeOf(1, 0, 0, 0))
	var kept []string
	for n := 1; n <= 300; n++ {
		body := strings.Repeat("k", n%21)
		if len(kept) == api.Spool {
			wantSubmit(t, a, 0, body, api.ErrFull)
			drop := 1 + n%5
			deliver(t, a, ackOf(1, 0, n-1-len(kept)+drop, 0))
			kept = kept[drop:]
		}
		submit(t, a, 0, body)
		kept = append(kept, body)
		wantLasting(t, a, [api.Streams][]string{kept})
	}
}

func TestP6HelloUntilWelcome(t *testing.T) {
	a := newAgent(t)
	wantTicks(t, 9, a, helloOf(1))
	submit(t, a, 0, "a")
	wantTicks(t, 2, a, helloOf(1))
	deliver(t, a, welcomeOf(1, 0, 0, 0))
	wantTick(t, a, dataOf(1, 0, 1, "a"))
	empty := welcomed(t)
	wantTicks(t, 9, empty)
}

func TestP6AllStreamsInOrder(t *testing.T) {
	a := welcomed(t)
	submit(t, a, 2, "e", text20)
	submit(t, a, 0, "")
	submit(t, a, 1, "c", "d\x00")
	all := [][]byte{dataOf(1, 0, 1, ""), dataOf(1, 1, 1, "c"), dataOf(1, 1, 2, "d\x00"), dataOf(1, 2, 1, "e"), dataOf(1, 2, 2, text20)}
	for range 3 {
		wantTick(t, a, all...)
		wantTicks(t, 3, a)
	}
}

func TestP6Window(t *testing.T) {
	a := welcomed(t, "1", "2", "3", "4", "5", "6")
	submit(t, a, 1, "1", "2", "3", "4", "5")
	wantTick(t, a, dataOf(1, 0, 1, "1"), dataOf(1, 0, 2, "2"), dataOf(1, 0, 3, "3"), dataOf(1, 0, 4, "4"),
		dataOf(1, 1, 1, "1"), dataOf(1, 1, 2, "2"), dataOf(1, 1, 3, "3"), dataOf(1, 1, 4, "4"))
	// The window is of what is kept: held records are in it too, the fifth one isn't sent in their place.
	deliver(t, a, ackOf(1, 0, 0, 7))
	wantTick(t, a)
	deliver(t, a, ackOf(1, 0, 1, 3))
	wantTick(t, a, dataOf(1, 0, 5, "5"))
	deliver(t, a, ackOf(1, 1, 1, 0))
	wantTick(t, a, dataOf(1, 1, 5, "5"))
	wantTick(t, a, dataOf(1, 0, 2, "2"), dataOf(1, 1, 2, "2"), dataOf(1, 1, 3, "3"), dataOf(1, 1, 4, "4"))
}

// Sent at tick 10 it is sent again at tick 14, and not at 13.
func TestP6Patience(t *testing.T) {
	a := welcomed(t)
	wantTicks(t, 9, a)
	submit(t, a, 0, "a")
	wantTick(t, a, dataOf(1, 0, 1, "a"))
	wantTicks(t, 2, a)
	submit(t, a, 0, "b")
	wantTick(t, a, dataOf(1, 0, 2, "b")) // tick 13
	wantTick(t, a, dataOf(1, 0, 1, "a"))
	wantTicks(t, 2, a)
	wantTick(t, a, dataOf(1, 0, 2, "b")) // tick 17
	wantTick(t, a, dataOf(1, 0, 1, "a"))
}

// A record that is held no more is due as it would have been.
func TestP6HeldAndNoMore(t *testing.T) {
	a := welcomed(t, "a", "b")
	wantTick(t, a, dataOf(1, 0, 1, "a"), dataOf(1, 0, 2, "b"))
	deliver(t, a, ackOf(1, 0, 0, 1))
	wantTicks(t, 3, a)
	wantTick(t, a, dataOf(1, 0, 1, "a")) // tick 5
	deliver(t, a, ackOf(1, 0, 0, 0))
	wantTick(t, a, dataOf(1, 0, 2, "b"))
	deliver(t, a, ackOf(1, 0, 0, 1))
	wantTick(t, a)
	deliver(t, a, ackOf(1, 0, 0, 0))
	wantTick(t, a)
	wantTick(t, a, dataOf(1, 0, 1, "a")) // tick 9
	wantTick(t, a, dataOf(1, 0, 2, "b"))
}

func TestP7NoFrames(t *testing.T) {
	a := welcomed(t, "a", "b")
	before := a.Image(0)
	bad := [][]byte{nil, {}, {1}, make([]byte, 15), make([]byte, 1<<20), append(resetOf(9), 0), resetOf(9)[1:],
		bytesOf(api.Reset, 9, 1, 0, 0, ""), bytesOf(api.Ack, 1, 0, 2, 1, "\x08"), bytesOf(api.Ack, 1, 0, 2, 0, ""), bytesOf(api.Ack, 1, 3, 2, 1, "\x00"),
		bytesOf(api.Ack, 1, 0, 1<<31, 1, "\x00"), bytesOf(api.Welcome, 1, 0, 0, 11, "12345678901"), bytesOf(6, 1, 0, 0, 0, ""), bytesOf(0, 1, 0, 0, 0, "")}
	for _, b := range [][]byte{welcomeOf(1, 2, 0, 0), ackOf(1, 0, 2, 0), resetOf(1), resetOf(9)} {
		for at := range b {
			spoilt := slices.Clone(b)
			spoilt[at] ^= 0x40
			bad = append(bad, spoilt, b[:at])
		}
	}
	for _, b := range bad {
		if e := a.Deliver(b); e != api.ErrFrame {
			t.Errorf("P7: Deliver(%v) = %d, want ErrFrame", b, e)
		}
	}
	if !bytes.Equal(a.Image(0), before) {
		t.Error("P1: what is no frame changed the disk")
	}
	wantTick(t, a, dataOf(1, 0, 1, "a"), dataOf(1, 0, 2, "b"))
}

// Neither frames of other Epochs nor a Hello and a Data change anything, whether the agent is welcome or not.
func TestP7FramesThatChangeNothing(t *testing.T) {
	disk := openAgent(t, newAgent(t).Image(0), 2).Image(0)
	for _, isWelcome := range []bool{false, true} {
		a := openAgent(t, disk, 3)
		submit(t, a, 0, "a", "b", "c")
		want := [][]byte{helloOf(3)}
		if isWelcome {
			deliver(t, a, welcomeOf(3, 0, 0, 0), ackOf(3, 0, 0, 2))
			want = [][]byte{dataOf(3, 0, 1, "a"), dataOf(3, 0, 2, "b")}
		}
		for _, epoch := range []int{0, 1, 2, 4, api.MaxNumber} {
			deliver(t, a, welcomeOf(epoch, 1, 1, 1), ackOf(epoch, 0, 1, 7), ackOf(epoch, 0, 0, 0), dataOf(epoch, 0, 1, "x"), helloOf(epoch))
			if epoch < 3 {
				deliver(t, a, resetOf(epoch))
			}
		}
		deliver(t, a, dataOf(3, 0, 1, "x"), dataOf(3, 0, 4, "x"), helloOf(3))
		wantTick(t, a, want...)
		wantLasting(t, a, [api.Streams][]string{{"a", "b", "c"}})
	}
}

func TestP7NotWelcomeTakesNoAck(t *testing.T) {
	a := newAgent(t)
	submit(t, a, 0, "a", "b", "c")
	deliver(t, a, ackOf(1, 0, 1, 1))
	wantTick(t, a, helloOf(1))
	wantLasting(t, a, [api.Streams][]string{{"a", "b", "c"}})
	deliver(t, a, welcomeOf(1, 0, 0, 0))
	wantTick(t, a, dataOf(1, 0, 1, "a"), dataOf(1, 0, 2, "b"), dataOf(1, 0, 3, "c"))
	deliver(t, a, resetOf(1), ackOf(1, 0, 1, 1))
	wantTick(t, a, helloOf(1))
	wantLasting(t, a, [api.Streams][]string{{"a", "b", "c"}})
}

func TestP7Welcome(t *testing.T) {
	a := newAgent(t)
	submit(t, a, 0, "a", "b")
	submit(t, a, 1, "c", "d")
	submit(t, a, 2, "e")
	deliver(t, a, welcomeOf(1, 1, 0, 1))
	wantLasting(t, a, [api.Streams][]string{{"b"}, {"c", "d"}, {}})
	wantTick(t, a, dataOf(1, 0, 2, "b"), dataOf(1, 1, 1, "c"), dataOf(1, 1, 2, "d"))
	wantTick(t, a)
	// Again: nothing has been sent.
	deliver(t, a, welcomeOf(1, 0, 1, 0))
	wantLasting(t, a, [api.Streams][]string{{"b"}, {"d"}, {}})
	wantTick(t, a, dataOf(1, 0, 2, "b"), dataOf(1, 1, 2, "d"))
	wantTick(t, a)
	deliver(t, a, welcomeOf(1, 0, 0, 0))
	wantTick(t, a, dataOf(1, 0, 2, "b"), dataOf(1, 1, 2, "d"))
	wantTicks(t, 3, a)
	wantTick(t, a, dataOf(1, 0, 2, "b"), dataOf(1, 1, 2, "d"))
}

func TestP7WelcomeHoldsNothing(t *testing.T) {
	a := welcomed(t, "a", "b", "c")
	submit(t, a, 1, "d", "e")
	deliver(t, a, ackOf(1, 0, 0, 3), ackOf(1, 1, 0, 1))
	wantTick(t, a, dataOf(1, 0, 1, "a"), dataOf(1, 1, 1, "d"))
	deliver(t, a, welcomeOf(1, 0, 0, 0))
	wantTick(t, a, dataOf(1, 0, 1, "a"), dataOf(1, 0, 2, "b"), dataOf(1, 0, 3, "c"), dataOf(1, 1, 1, "d"), dataOf(1, 1, 2, "e"))
}

func TestP7NumbersAboveTheLast(t *testing.T) {
	for _, above := range []int{3, 4, 1 << 30, api.MaxNumber} {
		a := newAgent(t)
		submit(t, a, 0, "a", "b")
		submit(t, a, 1, "c", "d")
		deliver(t, a, welcomeOf(1, above, 0, above))
		wantLasting(t, a, [api.Streams][]string{{}, {"c", "d"}, {}})
		// Stream 1: its last is 2, so bit 0 stands for 4 and bit 1 for 5.
		deliver(t, a, ackOf(1, 1, above, 1), ackOf(1, 2, above, 0))
		wantLasting(t, a, [api.Streams][]string{})
		for stream := range api.Streams {
			submit(t, a, stream, "x", "y")
		}
		wantTick(t, a, dataOf(1, 0, 3, "x"), dataOf(1, 0, 4, "y"), dataOf(1, 1, 3, "x"), dataOf(1, 2, 1, "x"), dataOf(1, 2, 2, "y"))
	}
}

func TestP7Acks(t *testing.T) {
	a := welcomed(t, "a", "b", "c")
	submit(t, a, 1, "d", "e")
	deliver(t, a, ackOf(1, 0, 1, 0))
	wantLasting(t, a, [api.Streams][]string{{"b", "c"}, {"d", "e"}, {}})
	deliver(t, a, ackOf(1, 1, 2, 0))
	wantLasting(t, a, [api.Streams][]string{{"b", "c"}, {}, {}})
	deliver(t, a, ackOf(1, 0, 3, 0))
	b := wantLasting(t, a, [api.Streams][]string{})
	wantTicks(t, 5, a)
	wantTick(t, b, helloOf(2))
}

func TestP7AcksThatCameLate(t *testing.T) {
	a := welcomed(t, "a", "b", "c", "d", "e")
	deliver(t, a, ackOf(1, 0, 2, 1)) // 4 is held
	deliver(t, a, ackOf(1, 0, 1, 4), ackOf(1, 0, 0, 0), ackOf(1, 0, 1, 0))
	wantTick(t, a, dataOf(1, 0, 3, "c"), dataOf(1, 0, 5, "e"))
	wantLasting(t, a, [api.Streams][]string{{"c", "d", "e"}})
	// One of the same Seq isn't late: 5 is held now, and 4 no more.
	deliver(t, a, ackOf(1, 0, 2, 2))
	wantTick(t, a, dataOf(1, 0, 4, "d"))
	wantTicks(t, 2, a)
	wantTick(t, a, dataOf(1, 0, 3, "c"))
	deliver(t, a, ackOf(1, 0, 2, 0))
	wantTick(t, a, dataOf(1, 0, 4, "d"), dataOf(1, 0, 5, "e"))
}

// Every Body of an Ack: bit i stands for record Seq + 2 + i.
func TestP7HeldBits(t *testing.T) {
	for bits := range 8 {
		for seq := range 3 {
			a := welcomed(t, "1", "2", "3", "4", "5", "6")
			deliver(t, a, ackOf(1, 0, seq, byte(bits)))
			var want [][]byte
			for i := range api.Window {
				if i == 0 || bits>>(i-1)&1 == 0 {
					n := seq + 1 + i
					want = append(want, dataOf(1, 0, n, string([]byte{'0' + byte(n)})))
				}
			}
			wantTick(t, a, want...)
		}
	}
}

// What is held is of one stream, and an Ack of another one says nothing of it.
func TestP7HeldOfOneStream(t *testing.T) {
	a := welcomed(t, "a", "b")
	submit(t, a, 1, "c", "d")
	deliver(t, a, ackOf(1, 0, 0, 1), ackOf(1, 2, 0, 0), ackOf(1, 1, 0, 0))
	wantTick(t, a, dataOf(1, 0, 1, "a"), dataOf(1, 1, 1, "c"), dataOf(1, 1, 2, "d"))
}

// A bit may stand for a record that isn't taken yet.
func TestP7HeldBeforeItIsTaken(t *testing.T) {
	a := welcomed(t, "a")
	deliver(t, a, ackOf(1, 0, 0, 6)) // 3 and 4
	wantTick(t, a, dataOf(1, 0, 1, "a"))
	submit(t, a, 0, "b", "c", "d")
	wantTick(t, a, dataOf(1, 0, 2, "b"))
	deliver(t, a, ackOf(1, 0, 4, 2)) // 7
	submit(t, a, 0, "e", "f", "g", "h")
	wantTick(t, a, dataOf(1, 0, 5, "e"), dataOf(1, 0, 6, "f"), dataOf(1, 0, 8, "h"))
}

func TestP7ResetOfTheSameEpoch(t *testing.T) {
	a := welcomed(t, "a")
	wantTick(t, a, dataOf(1, 0, 1, "a"))
	deliver(t, a, resetOf(1))
	wantTicks(t, 2, a, helloOf(1))
	wantSpool(t, a, 0, "a")
	deliver(t, a, resetOf(1), welcomeOf(1, 0, 0, 0))
	wantTick(t, a, dataOf(1, 0, 1, "a"))
}

func TestP7ResetOfALesserEpoch(t *testing.T) {
	a := openAgent(t, welcomed(t, "a").Image(0), 2)
	deliver(t, a, welcomeOf(2, 0, 0, 0), resetOf(1), resetOf(0))
	wantTick(t, a, dataOf(2, 0, 1, "a"))
}

// Fenced, an agent is silent for good; all else goes on.
func TestP7ResetOfAGreaterEpoch(t *testing.T) {
	for _, epoch := range []int{2, 3, api.MaxNumber} {
		for _, isWelcome := range []bool{false, true} {
			a := newAgent(t)
			submit(t, a, 0, "a", "b")
			if isWelcome {
				deliver(t, a, welcomeOf(1, 0, 0, 0))
			}
			deliver(t, a, resetOf(epoch))
			wantTicks(t, 5, a)
			deliver(t, a, resetOf(1), resetOf(0))
			wantTick(t, a)
			deliver(t, a, welcomeOf(1, 0, 0, 0))
			wantTick(t, a)
			deliver(t, a, ackOf(1, 0, 1, 0))
			submit(t, a, 0, "c")
			b := wantLasting(t, a, [api.Streams][]string{{"b", "c"}})
			wantTick(t, b, helloOf(2))
		}
	}
}

// A Reset of a greater Epoch fences and does no more: what was welcome still takes Acks.
func TestP7FencedTakesAcks(t *testing.T) {
	a := welcomed(t, "a", "b")
	deliver(t, a, resetOf(7), ackOf(1, 0, 1, 0))
	wantLasting(t, a, [api.Streams][]string{{"b"}})
}

package courier_test

import (
	"bytes"
	"math"
	"math/rand"
	"slices"
	"strings"
	"testing"
	"unsafe"

	"courier/api"
	"courier/courier"
)

// withRoom gives bytes spare room that nobody may write into.
func withRoom(b []byte) []byte {
	return append(slices.Clone(b), bytes.Repeat([]byte{0xa5}, 64)...)[:len(b)]
}

// wantAsWas asks whether bytes made by withRoom are as they were.
func wantAsWas(t *testing.T, b, was []byte) {
	t.Helper()
	if all := b[:len(b)+64]; !bytes.Equal(b, was) || !bytes.Equal(all[len(b):], bytes.Repeat([]byte{0xa5}, 64)) {
		t.Errorf("P2: what was handed in was written into: %v, was %v", all, was)
	}
}

func TestP2OpenAgentLeavesItsDisk(t *testing.T) {
	image := welcomed(t, "a", "b").Image(0)
	spoilt := slices.Clone(image)
	spoilt[70]++
	for _, disk := range [][]byte{make([]byte, api.AgentDisk), image, spoilt, bytes.Repeat([]byte{7}, 100)} {
		b := withRoom(disk)
		a, e := courier.OpenAgent(b)
		wantAsWas(t, b, disk)
		if e != api.OK {
			continue
		}
		before := a.Image(0)
		submit(t, a, 0, "c")
		deliver(t, a, welcomeOf(a.Epoch(), 1, 0, 0))
		a.Tick()
		wantAsWas(t, b, disk)
		// And the agent doesn't lean on it any more.
		after, spool := a.Image(0), a.Spool(0)
		scribble(b)
		if !bytes.Equal(a.Image(0), after) || bytes.Equal(after, before) || !slices.Equal(a.Spool(0), spool) {
			t.Error("P2: an agent changed with the bytes that its disk was made of")
		}
	}
}

func TestP2DeliverLeavesItsFrame(t *testing.T) {
	a := welcomed(t, "a", "b", "c", "d")
	for _, frame := range [][]byte{welcomeOf(1, 1, 0, 0), ackOf(1, 0, 2, 2), ackOf(1, 0, 0, 7), dataOf(1, 0, 1, "x"), helloOf(1), {1, 2, 3}, nil} {
		b := withRoom(frame)
		a.Deliver(b)
		wantAsWas(t, b, frame)
		scribble(b)
	}
	wantTick(t, a, dataOf(1, 0, 3, "c"), dataOf(1, 0, 4, "d"))
	b := ackOf(1, 0, 2, 1)
	deliver(t, a, b)
	scribble(b)
	wantTicks(t, 3, a)
	wantTick(t, a, dataOf(1, 0, 3, "c"))
}

// A body may be a piece of a text whose owner does with its bytes what he likes.
func TestP2SubmitKeepsNothing(t *testing.T) {
	a := welcomed(t)
	b := []byte("0123456789")
	submit(t, a, 0, unsafe.String(&b[2], 5))
	scribble(b)
	wantSpool(t, a, 0, "23456")
	wantTick(t, a, dataOf(1, 0, 1, "23456"))
	wantLasting(t, a, [api.Streams][]string{{"23456"}})
}

func TestP2SpoolIsNew(t *testing.T) {
	a := welcomed(t, "a", "b", "c")
	first, second := a.Spool(0), a.Spool(0)
	first[1] = "x"
	spare := first[:cap(first)]
	clear(spare)
	if !slices.Equal(second, []string{"a", "b", "c"}) {
		t.Errorf("P2: a Spool changed with one that came before: %q", second)
	}
	submit(t, a, 0, "d")
	third := append(a.Spool(0)[:2], "y", "z", "w")
	wantSpool(t, a, 0, "a", "b", "c", "d")
	deliver(t, a, ackOf(1, 0, 1, 0))
	if !slices.Equal(second, []string{"a", "b", "c"}) || !slices.Equal(third, []string{"a", "b", "y", "z", "w"}) {
		t.Errorf("P2: Spools changed later: %q, %q", second, third)
	}
	wantTick(t, a, dataOf(1, 0, 2, "b"), dataOf(1, 0, 3, "c"), dataOf(1, 0, 4, "d"))
}

func TestP2TickIsNew(t *testing.T) {
	a := welcomed(t, "a", "b", "c")
	want := [][]byte{dataOf(1, 0, 1, "a"), dataOf(1, 0, 2, "b"), dataOf(1, 0, 3, "c")}
	first := a.Tick()
	scribble(first[0])
	scribble(first[2])
	if !bytes.Equal(first[1], want[1]) {
		t.Errorf("P2: a frame changed with those beside it: %v", first[1])
	}
	clear(first[:cap(first)])
	deliver(t, a, welcomeOf(1, 0, 0, 0))
	wantTick(t, a, want...)
	deliver(t, a, resetOf(1))
	hello := a.Tick()
	scribble(hello[0])
	clear(hello[:cap(hello)])
	wantTick(t, a, helloOf(1))
}

func TestP2ImageIsNew(t *testing.T) {
	a := welcomed(t, "a")
	first, second := a.Image(0), a.Image(0)
	was := slices.Clone(second)
	scribble(first)
	if !bytes.Equal(second, was) || !bytes.Equal(a.Image(0), was) {
		t.Error("P2: an image changed with one that came before")
	}
	submit(t, a, 0, "b")
	if !bytes.Equal(second, was) {
		t.Error("P2: an image changed when the disk was written")
	}
	wantLasting(t, a, [api.Streams][]string{{"a", "b"}})
}

// Agents on one disk's bytes know nothing of one another.
func TestP2AgentsAreApart(t *testing.T) {
	disk := welcomed(t, "a").Image(0)
	a, b := openAgent(t, disk, 2), openAgent(t, disk, 2)
	submit(t, a, 0, "b")
	deliver(t, a, welcomeOf(2, 1, 0, 0))
	submit(t, b, 1, "c")
	wantSpool(t, a, 0, "b")
	wantSpool(t, a, 1)
	wantSpool(t, b, 0, "a")
	wantSpool(t, b, 1, "c")
	wantTick(t, b, helloOf(2))
	wantTick(t, a, dataOf(2, 0, 2, "b"))
}

// Two agents live alike, but one is asked much more.
func TestP2QuestionsChangeNothing(t *testing.T) {
	r, s := rand.New(rand.NewSource(2)), rand.New(rand.NewSource(2))
	one, two := newRun(t), newRun(t)
	for n := range 2000 {
		one.step(t, r)
		two.agent.Epoch()
		two.agent.Image(uint64(n))
		for stream := range 5 {
			two.agent.Spool(stream - 1)
		}
		two.step(t, s)
		if !bytes.Equal(one.agent.Image(0), two.agent.Image(0)) {
			t.Fatal("P2: a question changed the disk")
		}
	}
}

func TestP1NumbersAndTextsOfAllKinds(t *testing.T) {
	a := welcomed(t, "a", "b")
	ends := []int{math.MinInt, math.MinInt32, -1, 0, 1, 2, 3, 23, 24, 25, math.MaxInt32, math.MaxUint32, math.MaxInt}
	for _, n := range ends {
		a.Spool(n)
		a.Image(uint64(n))
		for _, body := range []string{"", "\x00", "\xff\xfe\xfd", text20, text20 + "1", strings.Repeat("é", 1<<16)} {
			a.Submit(n, body)
			a.Deliver([]byte(body))
		}
	}
	for _, n := range []int{0, 1, 2, 5, 24, 25, 1 << 16, api.MaxNumber - 1, api.MaxNumber} {
		for stream := range api.Streams {
			for bits := range 8 {
				deliver(t, a, ackOf(1, stream, n, byte(bits)), dataOf(1, stream, max(1, n), ""), welcomeOf(1, n, n, n))
				a.Tick()
			}
		}
		deliver(t, a, resetOf(n), helloOf(n), welcomeOf(n, n, n, n))
	}
}

func TestP1AgentsNeverPanic(t *testing.T) {
	r := rand.New(rand.NewSource(11))
	a := welcomed(t, "a", "b", "c")
	for range 20000 {
		b := make([]byte, 11+r.Intn(22))
		for i := range b {
			b[i] = byte(r.Intn(6))
		}
		b[10] = byte(len(b) - 11)
		a.Deliver(b)
		a.Deliver(withSum(b))
		if r.Intn(4) == 0 {
			a.Submit(r.Intn(5)-1, text20[:r.Intn(20)])
			a.Tick()
		}
	}
	for range 2000 {
		disk := make([]byte, api.AgentDisk)
		r.Read(disk)
		courier.OpenAgent(disk)
		clear(disk[r.Intn(len(disk)):])
		courier.OpenAgent(disk)
		clear(disk[:r.Intn(len(disk))])
		courier.OpenAgent(disk)
	}
}

package courier_test

import (
	"bytes"
	"math"
	"math/rand"
	"slices"
	"testing"

	"courier/api"
	"courier/courier"
)

func TestP2OpenSinkLeavesItsDisk(t *testing.T) {
	image := greeted(t, "a", "b").Image(0)
	spoilt := slices.Clone(image)
	spoilt[70]++
	for _, disk := range [][]byte{make([]byte, api.SinkDisk), image, spoilt, bytes.Repeat([]byte{7}, 100)} {
		b := withRoom(disk)
		s, e := courier.OpenSink(b)
		wantAsWas(t, b, disk)
		if e != api.OK {
			continue
		}
		before, n := s.Image(0), len(s.Log(0))
		wantAnswer(t, s, helloOf(2), welcomeOf(2, n, 0, 0))
		wantAnswer(t, s, dataOf(2, 0, n+1, "c"), ackOf(2, 0, n+1, 0))
		wantAsWas(t, b, disk)
		// And the sink doesn't lean on it any more.
		after, log := s.Image(0), s.Log(0)
		scribble(b)
		if !bytes.Equal(s.Image(0), after) || bytes.Equal(after, before) || !slices.Equal(s.Log(0), log) {
			t.Error("P2: a sink changed with the bytes that its disk was made of")
		}
	}
}

// Neither what is committed nor what is held leans on the bytes of a frame.
func TestP2SinkLeavesItsFrame(t *testing.T) {
	s := newSink(t)
	for _, frame := range [][]byte{helloOf(1), dataOf(1, 0, 2, "two"), dataOf(1, 0, 1, "one"), dataOf(1, 0, 4, "four"), dataOf(1, 0, 9, "nine"),
		dataOf(0, 0, 3, "x"), helloOf(0), ackOf(1, 0, 1, 0), {1, 2, 3}, nil} {
		b := withRoom(frame)
		s.Deliver(b)
		wantAsWas(t, b, frame)
		scribble(b)
	}
	wantCommitted(t, s, [api.Streams][]string{{"one", "two"}})
	b := dataOf(1, 0, 3, "three")
	wantAnswer(t, s, b, ackOf(1, 0, 4, 0))
	scribble(b)
	wantCommitted(t, s, [api.Streams][]string{{"one", "two", "three", "four"}})
}

func TestP2LogIsNew(t *testing.T) {
	s := greeted(t, "a", "b", "c")
	for n := 4; n < 40; n++ {
		first, second := s.Log(0), s.Log(0)
		want := slices.Clone(second)
		first[1] = "x"
		clear(first[:cap(first)])
		third := append(s.Log(0)[:2], "y", "z", "w")
		wantAnswer(t, s, dataOf(1, 0, n, "r"), ackOf(1, 0, n, 0))
		fourth := s.Log(0)
		_ = append(second, "more")
		if !slices.Equal(second, want) || !slices.Equal(third, []string{"a", "b", "y", "z", "w"}) || !slices.Equal(fourth, append(want, "r")) {
			t.Fatalf("P2: Logs changed with others: %q, %q, %q", second, third, fourth)
		}
	}
	empty := append(s.Log(1), "x")
	wantLogs(t, s, [api.Streams][]string{0: s.Log(0)})
	wantAnswer(t, s, dataOf(1, 1, 1, "first"), ackOf(1, 1, 1, 0))
	if empty[0] != "x" {
		t.Errorf("P2: a Log changed when a record was committed: %q", empty)
	}
}

func TestP2AnswersAreNew(t *testing.T) {
	for _, c := range [][2][]byte{
		{helloOf(3), welcomeOf(3, 1, 0, 0)},
		{helloOf(2), resetOf(3)},
		{dataOf(4, 0, 1, "x"), resetOf(4)},
		{dataOf(3, 0, 1, "x"), ackOf(3, 0, 1, 0)},
		{dataOf(3, 0, 3, "x"), ackOf(3, 0, 1, 1)},
	} {
		s := greeted(t, "a")
		wantAnswer(t, s, helloOf(3), welcomeOf(3, 1, 0, 0))
		first, _ := s.Deliver(c[0])
		second, _ := s.Deliver(c[0])
		before := s.Image(0)
		scribble(first[0])
		clear(first[:cap(first)])
		if len(second) != 1 || !bytes.Equal(second[0], c[1]) {
			t.Errorf("P2: an answer changed with one that came before: %v, want %v", second, c[1])
		}
		_ = append(second, nil, nil)
		wantAnswer(t, s, c[0], c[1])
		if !bytes.Equal(s.Image(0), before) {
			t.Error("P2: what was written into an answer came to the disk")
		}
		wantLogs(t, s, [api.Streams][]string{{"a"}})
	}
}

func TestP2SinkImageIsNew(t *testing.T) {
	s := greeted(t, "a")
	first, second := s.Image(0), s.Image(0)
	was := slices.Clone(second)
	scribble(first)
	if !bytes.Equal(second, was) || !bytes.Equal(s.Image(0), was) {
		t.Error("P2: an image changed with one that came before")
	}
	wantAnswer(t, s, dataOf(1, 0, 2, "b"), ackOf(1, 0, 2, 0))
	if !bytes.Equal(second, was) {
		t.Error("P2: an image changed when the disk was written")
	}
	wantCommitted(t, s, [api.Streams][]string{{"a", "b"}})
}

// Sinks on one disk's bytes know nothing of one another.
func TestP2SinksAreApart(t *testing.T) {
	disk := greeted(t, "a").Image(0)
	s, z := openSink(t, disk, 1), openSink(t, disk, 1)
	wantAnswer(t, s, dataOf(1, 0, 3, "c"), ackOf(1, 0, 1, 1))
	wantAnswer(t, s, dataOf(1, 1, 1, "x"), ackOf(1, 1, 1, 0))
	wantAnswer(t, z, dataOf(1, 0, 2, "B"), ackOf(1, 0, 2, 0))
	wantAnswer(t, z, helloOf(2), welcomeOf(2, 2, 0, 0))
	wantAnswer(t, s, dataOf(1, 0, 2, "b"), ackOf(1, 0, 3, 0))
	wantCommitted(t, s, [api.Streams][]string{{"a", "b", "c"}, {"x"}})
	wantCommitted(t, z, [api.Streams][]string{{"a", "B"}})
}

// Two sinks live alike, but one is asked much more.
func TestP2SinkQuestionsChangeNothing(t *testing.T) {
	r, q := rand.New(rand.NewSource(2)), rand.New(rand.NewSource(2))
	one, two := newSinkRun(t), newSinkRun(t)
	for n := range 600 {
		one.step(t, r)
		two.sink.Epoch()
		two.sink.Image(uint64(n))
		for stream := range 5 {
			two.sink.Log(stream - 1)
		}
		two.step(t, q)
		if !bytes.Equal(one.sink.Image(0), two.sink.Image(0)) {
			t.Fatal("P2: a question changed the disk")
		}
	}
}

func TestP1SinkNumbersOfAllKinds(t *testing.T) {
	s := greeted(t, "a", "b")
	for _, n := range []int{math.MinInt, math.MinInt32, -1, 0, 1, 2, 3, 119, 120, 121, math.MaxInt32, math.MaxUint32, math.MaxInt} {
		s.Log(n)
		s.Image(uint64(n))
	}
	for _, n := range []int{0, 1, 2, 5, 24, 25, 119, 121, 1 << 16, api.MaxNumber - 1, api.MaxNumber} {
		for _, epoch := range []int{0, 1, n} {
			for stream := range api.Streams {
				for _, f := range [][]byte{dataOf(epoch, stream, max(1, n), "x"), ackOf(epoch, stream, n, 7), welcomeOf(epoch, n, n, n), helloOf(epoch), resetOf(epoch)} {
					if _, e := s.Deliver(f); e != api.OK {
						t.Errorf("P8: Deliver(%v) = %d", f, e)
					}
				}
			}
		}
	}
}

func TestP1SinksNeverPanic(t *testing.T) {
	r := rand.New(rand.NewSource(12))
	s := greeted(t, "a", "b", "c")
	for range 20000 {
		b := make([]byte, 11+r.Intn(22))
		for i := range b {
			b[i] = byte(r.Intn(6))
		}
		b[10] = byte(len(b) - 11)
		s.Deliver(b)
		s.Deliver(withSum(b))
		if b[1], b[2], b[3], b[4], b[7], b[8], b[9] = 1, 0, 0, 0, 0, 0, 0; r.Intn(4) == 0 {
			s.Deliver(withSum(b))
		}
	}
	for range 1000 {
		disk := make([]byte, api.SinkDisk)
		r.Read(disk)
		courier.OpenSink(disk)
		clear(disk[r.Intn(len(disk)):])
		courier.OpenSink(disk)
		clear(disk[:r.Intn(len(disk))])
		courier.OpenSink(disk)
	}
}

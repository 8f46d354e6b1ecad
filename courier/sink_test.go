package courier_test

import (
	"bytes"
	"slices"
	"strconv"
	"strings"
	"testing"

	"courier/api"
	"courier/courier"
)

func openSink(t *testing.T, disk []byte, epoch int) *courier.Sink {
	t.Helper()
	s, e := courier.OpenSink(disk)
	if s == nil || e != api.OK {
		t.Fatalf("P4: OpenSink: %v, %d, want a sink", s != nil, e)
	}
	wantEpoch(t, s, epoch)
	return s
}

func newSink(t *testing.T) *courier.Sink {
	t.Helper()
	return openSink(t, make([]byte, api.SinkDisk), 0)
}

// greeted is a new sink of Epoch 1 that has these records of stream 0.
func greeted(t *testing.T, bodies ...string) *courier.Sink {
	t.Helper()
	s := newSink(t)
	wantAnswer(t, s, helloOf(1), welcomeOf(1, 0, 0, 0))
	for i, body := range bodies {
		wantAnswer(t, s, dataOf(1, 0, i+1, body), ackOf(1, 0, i+1, 0))
	}
	return s
}

func wantEpoch(t *testing.T, s *courier.Sink, want int) {
	t.Helper()
	if got := s.Epoch(); got != want {
		t.Fatalf("P8: Epoch() = %d, want %d", got, want)
	}
}

func wantAnswer(t *testing.T, s *courier.Sink, frame []byte, want ...[]byte) {
	t.Helper()
	got, e := s.Deliver(frame)
	if e != api.OK || !slices.EqualFunc(got, want, bytes.Equal) {
		t.Errorf("P8: Deliver(%v) = %v, %d, want %v", frame, got, e, want)
	}
}

func wantUnanswered(t *testing.T, s *courier.Sink, frame []byte) {
	t.Helper()
	if got, e := s.Deliver(frame); len(got) != 0 || e != api.ErrFrame {
		t.Errorf("P8: Deliver(%v) = %v, %d, want ErrFrame", frame, got, e)
	}
}

func wantLogs(t *testing.T, s *courier.Sink, logs [api.Streams][]string) {
	t.Helper()
	for stream, want := range logs {
		if got := s.Log(stream); !slices.Equal(got, want) {
			t.Errorf("P9: Log(%d) = %q, want %q", stream, got, want)
		}
	}
}

// wantCommitted asks what a sink has, and one that is opened on its disk when all writes that aren't lasting are lost.
func wantCommitted(t *testing.T, s *courier.Sink, logs [api.Streams][]string) *courier.Sink {
	t.Helper()
	again := openSink(t, s.Image(0), s.Epoch())
	wantLogs(t, s, logs)
	wantLogs(t, again, logs)
	return again
}

func TestP4SinkSizes(t *testing.T) {
	image := greeted(t, "a").Image(0)
	disks := [][]byte{nil, {}, image[:len(image)-1], image[api.Sector:], append(slices.Clone(image), 0), slices.Concat(image, image)}
	for _, n := range []int{0, 1, 63, 64, 128, api.AgentDisk, api.SinkDisk - 64, api.SinkDisk - 1, api.SinkDisk + 1, api.SinkDisk + 64, 1 << 20} {
		for _, fill := range []byte{0, 1, 0xff} {
			disks = append(disks, bytes.Repeat([]byte{fill}, n))
		}
	}
	for _, disk := range disks {
		if len(disk) == api.SinkDisk {
			continue
		}
		if s, e := courier.OpenSink(disk); s != nil || e != api.ErrDisk {
			t.Errorf("P4: OpenSink of %d bytes: %v, %d, want ErrDisk", len(disk), s != nil, e)
		}
	}
}

func TestP4SinkOfNoughts(t *testing.T) {
	s := newSink(t)
	wantCommitted(t, s, [api.Streams][]string{})
	if image := s.Image(0); len(image) != api.SinkDisk {
		t.Errorf("P4: an image has %d bytes", len(image))
	}
}

// The Epoch of a sink is the agent's: it doesn't count openings of its own disk.
func TestP4SinkOpenedManyTimes(t *testing.T) {
	s := newSink(t)
	var want []string
	for n := range 300 {
		s = openSink(t, s.Image(uint64(n)), n/3)
		wantLogs(t, s, [api.Streams][]string{1: want})
		if n%3 == 2 {
			wantAnswer(t, s, helloOf(n/3+1), welcomeOf(n/3+1, 0, len(want), 0))
		} else if n%3 == 0 && n < 90 {
			want = append(want, strconv.Itoa(n))
			wantAnswer(t, s, dataOf(n/3, 1, len(want), strconv.Itoa(n)), ackOf(n/3, 1, len(want), 0))
		}
	}
}

// What is committed and the Epoch are there again, and nothing is held.
func TestP4SinkOpenedAgain(t *testing.T) {
	s := greeted(t, "a", "b")
	wantAnswer(t, s, helloOf(7), welcomeOf(7, 2, 0, 0))
	wantAnswer(t, s, dataOf(7, 2, 1, text20), ackOf(7, 2, 1, 0))
	wantAnswer(t, s, dataOf(7, 0, 4, "d"), ackOf(7, 0, 2, 1))
	wantAnswer(t, s, dataOf(7, 1, 2, "y"), ackOf(7, 1, 0, 1))
	for _, keep := range []uint64{0, 1, 1 << 63, ^uint64(0)} {
		again := openSink(t, s.Image(keep), 7)
		wantLogs(t, again, [api.Streams][]string{{"a", "b"}, {}, {text20}})
		wantAnswer(t, again, helloOf(6), resetOf(7))
		wantAnswer(t, again, helloOf(7), welcomeOf(7, 2, 0, 1))
		wantAnswer(t, again, dataOf(7, 0, 3, "c"), ackOf(7, 0, 3, 0))
		wantAnswer(t, again, dataOf(7, 1, 1, "x"), ackOf(7, 1, 1, 0))
		wantCommitted(t, again, [api.Streams][]string{{"a", "b", "c"}, {"x"}, {text20}})
	}
	wantAnswer(t, s, dataOf(7, 0, 3, "c"), ackOf(7, 0, 4, 0))
}

func TestP4SinkOfAnOlderImage(t *testing.T) {
	s := greeted(t, "a")
	older := s.Image(0)
	wantAnswer(t, s, dataOf(1, 0, 2, "b"), ackOf(1, 0, 2, 0))
	wantAnswer(t, s, helloOf(2), welcomeOf(2, 2, 0, 0))
	again := openSink(t, older, 1)
	wantLogs(t, again, [api.Streams][]string{{"a"}})
	wantAnswer(t, again, dataOf(1, 0, 2, "other"), ackOf(1, 0, 2, 0))
	wantCommitted(t, again, [api.Streams][]string{{"a", "other"}})
	wantCommitted(t, s, [api.Streams][]string{{"a", "b"}})
}

func TestP8EpochIs0AtFirst(t *testing.T) {
	s := newSink(t)
	wantAnswer(t, s, dataOf(1, 0, 1, "a"), resetOf(1))
	wantAnswer(t, s, dataOf(api.MaxNumber, 0, 1, "a"), resetOf(api.MaxNumber))
	wantEpoch(t, s, 0)
	wantCommitted(t, s, [api.Streams][]string{})
	wantAnswer(t, s, dataOf(0, 0, 1, "a"), ackOf(0, 0, 1, 0))
	wantAnswer(t, s, helloOf(0), welcomeOf(0, 1, 0, 0))
	wantEpoch(t, s, 0)
	wantCommitted(t, s, [api.Streams][]string{{"a"}})
}

func TestP8HelloOfAGreaterEpoch(t *testing.T) {
	s := newSink(t)
	for i, epoch := range []int{1, 2, 5, 300, 1 << 20, 1 << 30, 1<<30 + 1, api.MaxNumber - 1, api.MaxNumber} {
		wantAnswer(t, s, helloOf(epoch), welcomeOf(epoch, 0, i, 0))
		wantEpoch(t, s, epoch)
		wantAnswer(t, s, dataOf(epoch, 1, i+1, "x"), ackOf(epoch, 1, i+1, 0))
		wantCommitted(t, s, [api.Streams][]string{1: slices.Repeat([]string{"x"}, i+1)})
	}
	wantAnswer(t, s, helloOf(0), resetOf(api.MaxNumber))
}

// Welcome says the number of the last committed record of each stream, not what is held.
func TestP8WelcomeNumbers(t *testing.T) {
	s := greeted(t, "a", "b", "c")
	wantAnswer(t, s, dataOf(1, 1, 2, "y"), ackOf(1, 1, 0, 1))
	wantAnswer(t, s, dataOf(1, 2, 1, "z"), ackOf(1, 2, 1, 0))
	wantAnswer(t, s, dataOf(1, 2, 4, "z"), ackOf(1, 2, 1, 2))
	wantAnswer(t, s, helloOf(1), welcomeOf(1, 3, 0, 1))
	wantAnswer(t, s, helloOf(2), welcomeOf(2, 3, 0, 1))
}

func TestP8HelloOfTheSameEpochForgetsNothing(t *testing.T) {
	s := greeted(t)
	for stream := range api.Streams {
		wantAnswer(t, s, dataOf(1, stream, 2, "b"), ackOf(1, stream, 0, 1))
		wantAnswer(t, s, dataOf(1, stream, 4, "d"), ackOf(1, stream, 0, 5))
	}
	wantAnswer(t, s, helloOf(1), welcomeOf(1, 0, 0, 0))
	wantAnswer(t, s, helloOf(1), welcomeOf(1, 0, 0, 0))
	for stream := range api.Streams {
		wantAnswer(t, s, dataOf(1, stream, 1, "a"), ackOf(1, stream, 2, 1))
		wantAnswer(t, s, dataOf(1, stream, 3, "c"), ackOf(1, stream, 4, 0))
	}
	all := []string{"a", "b", "c", "d"}
	wantCommitted(t, s, [api.Streams][]string{all, all, all})
}

func TestP8HelloOfAGreaterEpochForgetsWhatIsHeld(t *testing.T) {
	s := greeted(t)
	for stream := range api.Streams {
		wantAnswer(t, s, dataOf(1, stream, 2, "b"), ackOf(1, stream, 0, 1))
		wantAnswer(t, s, dataOf(1, stream, 4, "d"), ackOf(1, stream, 0, 5))
	}
	wantAnswer(t, s, helloOf(2), welcomeOf(2, 0, 0, 0))
	for stream := range api.Streams {
		wantAnswer(t, s, dataOf(2, stream, 3, "c"), ackOf(2, stream, 0, 2))
		wantAnswer(t, s, dataOf(2, stream, 1, "a"), ackOf(2, stream, 1, 1))
		wantAnswer(t, s, dataOf(2, stream, 2, "B"), ackOf(2, stream, 3, 0))
	}
	all := []string{"a", "B", "c"}
	wantCommitted(t, s, [api.Streams][]string{all, all, all})
}

func TestP8HelloOfALesserEpoch(t *testing.T) {
	s := newSink(t)
	wantAnswer(t, s, helloOf(5), welcomeOf(5, 0, 0, 0))
	wantAnswer(t, s, dataOf(5, 0, 2, "b"), ackOf(5, 0, 0, 1))
	for epoch := range 5 {
		wantAnswer(t, s, helloOf(epoch), resetOf(5))
	}
	wantEpoch(t, s, 5)
	wantAnswer(t, s, dataOf(5, 0, 1, "a"), ackOf(5, 0, 2, 0))
	wantCommitted(t, s, [api.Streams][]string{{"a", "b"}})
}

func TestP8DataOfAnotherEpoch(t *testing.T) {
	s := newSink(t)
	wantAnswer(t, s, helloOf(5), welcomeOf(5, 0, 0, 0))
	wantAnswer(t, s, dataOf(5, 0, 1, "a"), ackOf(5, 0, 1, 0))
	for _, seq := range []int{1, 2, 3, 5, 6, api.MaxNumber} {
		for stream := range api.Streams {
			for _, lesser := range []int{0, 1, 4} {
				wantAnswer(t, s, dataOf(lesser, stream, seq, "x"), resetOf(5))
			}
			for _, greater := range []int{6, 7, api.MaxNumber} {
				wantAnswer(t, s, dataOf(greater, stream, seq, "x"), resetOf(greater))
			}
		}
	}
	wantEpoch(t, s, 5)
	again := wantCommitted(t, s, [api.Streams][]string{{"a"}})
	wantAnswer(t, again, dataOf(5, 0, 2, "b"), ackOf(5, 0, 2, 0))
	wantAnswer(t, s, dataOf(5, 0, 2, "b"), ackOf(5, 0, 2, 0))
	wantAnswer(t, s, dataOf(5, 1, 1, "y"), ackOf(5, 1, 1, 0))
}

// Records of every length, and each lasting by itself when it is answered.
func TestP8DataThatIsNext(t *testing.T) {
	s := greeted(t)
	bodies := []string{"", "\x00", "\xff\xfe", "é世", strings.Repeat("\x00", 20), strings.Repeat("\xff", 20)}
	for n := range 21 {
		bodies = append(bodies, text20[:n])
	}
	for i, body := range bodies {
		for stream := range api.Streams {
			wantAnswer(t, s, dataOf(1, stream, i+1, body), ackOf(1, stream, i+1, 0))
			var logs [api.Streams][]string
			for other := range logs {
				logs[other] = bodies[:i]
				if other <= stream {
					logs[other] = bodies[:i+1]
				}
			}
			wantCommitted(t, s, logs)
		}
	}
}

func TestP8DataThatIsFurther(t *testing.T) {
	for _, next := range []int{1, 2, 30} {
		for stream := range api.Streams {
			for ahead := 1; ahead <= 6; ahead++ {
				s := greeted(t)
				var log []string
				for n := 1; n < next; n++ {
					wantAnswer(t, s, dataOf(1, stream, n, "r"), ackOf(1, stream, n, 0))
					log = append(log, "r")
				}
				bits := byte(0)
				if ahead <= 3 {
					bits = 1 << (ahead - 1)
				}
				wantAnswer(t, s, dataOf(1, stream, next+ahead, "h"), ackOf(1, stream, next-1, bits))
				var logs [api.Streams][]string
				logs[stream] = log
				wantCommitted(t, s, logs)
			}
			s := greeted(t)
			wantAnswer(t, s, dataOf(1, stream, api.MaxNumber, "h"), ackOf(1, stream, 0, 0))
		}
	}
}

// What came first is held, and not what comes again under its number.
func TestP8HeldAlready(t *testing.T) {
	s := greeted(t)
	wantAnswer(t, s, dataOf(1, 0, 3, "c"), ackOf(1, 0, 0, 2))
	wantAnswer(t, s, dataOf(1, 0, 3, "other"), ackOf(1, 0, 0, 2))
	wantAnswer(t, s, dataOf(1, 0, 1, "a"), ackOf(1, 0, 1, 1))
	wantAnswer(t, s, dataOf(1, 0, 3, "yet another"), ackOf(1, 0, 1, 1))
	wantAnswer(t, s, dataOf(1, 0, 2, "b"), ackOf(1, 0, 3, 0))
	wantCommitted(t, s, [api.Streams][]string{{"a", "b", "c"}})
}

func TestP8CommittedAlready(t *testing.T) {
	s := greeted(t, "a", "b", "c", "d", "e")
	wantAnswer(t, s, dataOf(1, 0, 7, "g"), ackOf(1, 0, 5, 1))
	before := s.Image(0)
	for seq := 1; seq <= 5; seq++ {
		for _, body := range []string{"a", "e", "x", ""} {
			wantAnswer(t, s, dataOf(1, 0, seq, body), ackOf(1, 0, 5, 1))
		}
	}
	if !bytes.Equal(s.Image(0), before) {
		t.Error("P8: records that came again changed the disk")
	}
	wantCommitted(t, s, [api.Streams][]string{{"a", "b", "c", "d", "e"}})
}

// Whatever is held, of each Body of an Ack, is committed as far as it follows, and held no more.
func TestP8EveryBodyOfAnAck(t *testing.T) {
	for _, order := range [][]int{{0, 1, 2}, {2, 1, 0}, {1, 2, 0}} {
		for bits := range 8 {
			s := greeted(t, "1")
			told := byte(0)
			for _, i := range order {
				if bits>>i&1 == 1 {
					told |= 1 << i
					wantAnswer(t, s, dataOf(1, 0, 3+i, strconv.Itoa(3+i)), ackOf(1, 0, 1, told))
				}
			}
			log, rest := []string{"1", "2"}, bits
			for ; rest&1 == 1; rest >>= 1 {
				log = append(log, strconv.Itoa(len(log)+1))
			}
			wantAnswer(t, s, dataOf(1, 0, 2, "2"), ackOf(1, 0, len(log), byte(rest>>1)))
			wantCommitted(t, s, [api.Streams][]string{log})
			wantAnswer(t, s, dataOf(1, 0, 1, "x"), ackOf(1, 0, len(log), byte(rest>>1)))
		}
	}
}

// What is held is of one stream.
func TestP8HeldOfOneStream(t *testing.T) {
	s := greeted(t)
	wantAnswer(t, s, dataOf(1, 0, 2, "b"), ackOf(1, 0, 0, 1))
	wantAnswer(t, s, dataOf(1, 1, 3, "z"), ackOf(1, 1, 0, 2))
	wantAnswer(t, s, dataOf(1, 2, 1, "p"), ackOf(1, 2, 1, 0))
	wantAnswer(t, s, dataOf(1, 1, 1, "x"), ackOf(1, 1, 1, 1))
	wantAnswer(t, s, dataOf(1, 2, 2, "q"), ackOf(1, 2, 2, 0))
	wantAnswer(t, s, dataOf(1, 0, 1, "a"), ackOf(1, 0, 2, 0))
	wantCommitted(t, s, [api.Streams][]string{{"a", "b"}, {"x"}, {"p", "q"}})
}

// filledSink has so many records of each stream.
func filledSink(t *testing.T, counts ...int) *courier.Sink {
	t.Helper()
	s := greeted(t)
	for stream, count := range counts {
		for n := 1; n <= count; n++ {
			wantAnswer(t, s, dataOf(1, stream, n, "r"), ackOf(1, stream, n, 0))
		}
	}
	return s
}

func wantCounts(t *testing.T, s *courier.Sink, counts ...int) {
	t.Helper()
	again := openSink(t, s.Image(0), s.Epoch())
	for stream, want := range counts {
		if got, lasting := len(s.Log(stream)), len(again.Log(stream)); got != want || lasting != want {
			t.Errorf("P8: %d records of stream %d, lasting are %d, want %d", got, stream, lasting, want)
		}
	}
}

func TestP8Full(t *testing.T) {
	for _, counts := range [][]int{{120, 0, 0}, {0, 120, 0}, {0, 0, 120}, {40, 40, 40}, {1, 0, 119}} {
		s := filledSink(t, counts...)
		before := s.Image(0)
		for stream, n := range counts {
			wantAnswer(t, s, dataOf(1, stream, n+1, "x"), ackOf(1, stream, n, 0))
			wantAnswer(t, s, dataOf(1, stream, n+1, "x"), ackOf(1, stream, n, 0))
			wantAnswer(t, s, dataOf(1, stream, n+5, "x"), ackOf(1, stream, n, 0))
			wantAnswer(t, s, dataOf(1, stream, n+3, "x"), ackOf(1, stream, n, 2))
			wantAnswer(t, s, dataOf(1, stream, n+2, "x"), ackOf(1, stream, n, 3))
			wantAnswer(t, s, dataOf(1, stream, n+1, "x"), ackOf(1, stream, n, 3))
		}
		wantAnswer(t, s, helloOf(1), welcomeOf(1, counts...))
		if !bytes.Equal(s.Image(0), before) {
			t.Error("P8: a full sink wrote on its disk")
		}
		wantAnswer(t, s, helloOf(2), welcomeOf(2, counts...))
		wantCounts(t, s, counts...)
		again := openSink(t, s.Image(0), 2)
		for stream, n := range counts {
			wantAnswer(t, again, dataOf(2, stream, n+1, "x"), ackOf(2, stream, n, 0))
		}
		wantCounts(t, again, counts...)
	}
}

// The last places are for some of those that are held; the rest stays held, though nothing is missing ahead of it.
func TestP8FullOfWhatWasHeld(t *testing.T) {
	for free := 1; free <= 4; free++ {
		s := filledSink(t, 60-free, 60)
		n := 60 - free
		wantAnswer(t, s, dataOf(1, 0, n+2, "b"), ackOf(1, 0, n, 1))
		wantAnswer(t, s, dataOf(1, 0, n+3, "c"), ackOf(1, 0, n, 3))
		wantAnswer(t, s, dataOf(1, 0, n+4, "d"), ackOf(1, 0, n, 7))
		// Bits stand for what is behind the next one only.
		rest := byte(7) >> free
		wantAnswer(t, s, dataOf(1, 0, n+1, "a"), ackOf(1, 0, 60, rest))
		wantCounts(t, s, 60, 60, 0)
		if got := s.Log(0)[n:]; !slices.Equal(got, []string{"a", "b", "c", "d"}[:free]) {
			t.Errorf("P8: the last ones committed are %q", got)
		}
		wantAnswer(t, s, dataOf(1, 0, 61, "x"), ackOf(1, 0, 60, rest))
		wantAnswer(t, s, dataOf(1, 1, 61, "x"), ackOf(1, 1, 60, 0))
		wantAnswer(t, s, dataOf(1, 2, 1, "x"), ackOf(1, 2, 0, 0))
		wantAnswer(t, s, helloOf(1), welcomeOf(1, 60, 60, 0))
		wantAnswer(t, s, dataOf(1, 0, 61, "x"), ackOf(1, 0, 60, rest))
		wantAnswer(t, s, helloOf(2), welcomeOf(2, 60, 60, 0))
		wantAnswer(t, s, dataOf(2, 0, 61, "x"), ackOf(2, 0, 60, 0))
		wantCounts(t, s, 60, 60, 0)
	}
}

// Frames that only an agent takes are not answered and change nothing.
func TestP8FramesOfAnAgent(t *testing.T) {
	s := greeted(t, "a")
	wantAnswer(t, s, dataOf(1, 0, 3, "c"), ackOf(1, 0, 1, 1))
	before := s.Image(0)
	for _, epoch := range []int{0, 1, 2, api.MaxNumber} {
		wantAnswer(t, s, resetOf(epoch))
		wantAnswer(t, s, welcomeOf(epoch, 0, 0, 0))
		wantAnswer(t, s, welcomeOf(epoch, 9, 9, 9))
		for bits := range 8 {
			wantAnswer(t, s, ackOf(epoch, 0, 2, byte(bits)))
			wantAnswer(t, s, ackOf(epoch, 2, 0, byte(bits)))
		}
	}
	if !bytes.Equal(s.Image(0), before) {
		t.Error("P8: frames that only an agent takes changed the disk")
	}
	wantEpoch(t, s, 1)
	wantAnswer(t, s, dataOf(1, 0, 2, "b"), ackOf(1, 0, 3, 0))
}

func TestP8NoFrames(t *testing.T) {
	s := greeted(t, "a")
	wantAnswer(t, s, dataOf(1, 0, 3, "c"), ackOf(1, 0, 1, 1))
	before := s.Image(0)
	bad := [][]byte{nil, {}, {1}, {3}, make([]byte, 15), make([]byte, 1<<20), append(helloOf(9), 0), helloOf(9)[1:],
		bytesOf(api.Hello, 9, 1, 0, 0, ""), bytesOf(api.Hello, 9, 0, 1, 0, ""), bytesOf(api.Hello, 1<<31, 0, 0, 0, ""),
		bytesOf(api.Data, 1, 3, 1, 1, "x"), bytesOf(api.Data, 1, 255, 1, 1, "x"), bytesOf(api.Data, 1, 0, 0, 1, "x"),
		bytesOf(api.Data, 1, 0, 1<<31, 1, "x"), bytesOf(api.Data, 1, 0, 2, 21, text20+"1"), bytesOf(api.Data, 1, 0, 2, 2, "x"),
		bytesOf(6, 1, 0, 0, 0, ""), bytesOf(0, 1, 0, 0, 0, "")}
	for _, b := range [][]byte{helloOf(2), dataOf(1, 0, 2, "b"), dataOf(1, 0, 4, "d"), dataOf(1, 2, 1, text20)} {
		for at := range b {
			spoilt := slices.Clone(b)
			spoilt[at] ^= 0x40
			bad = append(bad, spoilt, b[:at])
		}
	}
	for _, b := range bad {
		wantUnanswered(t, s, b)
	}
	if !bytes.Equal(s.Image(0), before) {
		t.Error("P1: what is no frame changed the disk")
	}
	wantEpoch(t, s, 1)
	wantAnswer(t, s, dataOf(1, 0, 2, "b"), ackOf(1, 0, 3, 0))
	wantCommitted(t, s, [api.Streams][]string{{"a", "b", "c"}})
}

func TestP9LogOfNoStream(t *testing.T) {
	s := filledSink(t, 3, 3, 3)
	for _, stream := range noStreams {
		if got := s.Log(stream); len(got) != 0 {
			t.Errorf("P9: Log(%d) = %q", stream, got)
		}
	}
}

// Of a Data that commits several, all are lasting when it is answered.
func TestP9HeldOnesAreLastingToo(t *testing.T) {
	s := greeted(t, "a")
	for i, body := range []string{"c", text20, ""} {
		wantAnswer(t, s, dataOf(1, 0, 3+i, body), ackOf(1, 0, 1, 2<<i-1))
	}
	wantCommitted(t, s, [api.Streams][]string{{"a"}})
	wantAnswer(t, s, dataOf(1, 0, 2, "b"), ackOf(1, 0, 5, 0))
	again := wantCommitted(t, s, [api.Streams][]string{{"a", "b", "c", text20, ""}})
	wantAnswer(t, again, dataOf(1, 0, 6, "f"), ackOf(1, 0, 6, 0))
	wantCommitted(t, again, [api.Streams][]string{{"a", "b", "c", text20, "", "f"}})
}

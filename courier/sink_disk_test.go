package courier_test

import (
	"bytes"
	"math"
	"slices"
	"strconv"
	"testing"

	"courier/api"
	"courier/courier"
)

func wantDeadSink(t *testing.T, s *courier.Sink, epoch int) {
	t.Helper()
	wantEpoch(t, s, epoch)
	for stream := -1; stream <= api.Streams; stream++ {
		if got := s.Log(stream); len(got) != 0 {
			t.Errorf("P10: a dead sink's Log(%d) = %q", stream, got)
		}
	}
	for _, frame := range [][]byte{nil, {1}, helloOf(0), helloOf(epoch), helloOf(api.MaxNumber), dataOf(epoch, 0, 1, "x"), dataOf(epoch, 0, 2, "x"), ackOf(epoch, 0, 9, 0), resetOf(epoch)} {
		if got, e := s.Deliver(frame); len(got) != 0 || e != api.ErrDead {
			t.Errorf("P10: a dead sink's Deliver(%v) = %v, %d, want ErrDead", frame, got, e)
		}
	}
}

// filling is a sink of Epoch 2 that has some of each stream, holds records of stream 1, and waits for record 2 of it.
func filling(t *testing.T) *courier.Sink {
	t.Helper()
	s := greeted(t, "a", "b")
	wantAnswer(t, s, dataOf(1, 1, 1, "k"), ackOf(1, 1, 1, 0))
	s = openSink(t, s.Image(0), 1)
	wantAnswer(t, s, helloOf(2), welcomeOf(2, 2, 1, 0))
	wantAnswer(t, s, dataOf(2, 2, 1, text20), ackOf(2, 2, 1, 0))
	wantAnswer(t, s, dataOf(2, 1, 5, "o"), ackOf(2, 1, 1, 4))
	wantAnswer(t, s, dataOf(2, 1, 3, "m"), ackOf(2, 1, 1, 5))
	wantAnswer(t, s, dataOf(2, 1, 4, "n"), ackOf(2, 1, 1, 7))
	return s
}

func fillingLogs() [api.Streams][]string {
	return [api.Streams][]string{{"a", "b"}, {"k"}, {text20}}
}

// sinkCall is a frame that makes a filling sink write: of which stream it commits what, and which Epoch is behind it.
type sinkCall struct {
	name    string
	frame   []byte
	answer  []byte
	stream  int
	commits []string
	epoch   int
}

func sinkCalls() []sinkCall {
	return []sinkCall{
		{"a Data", dataOf(2, 0, 3, "c"), ackOf(2, 0, 3, 0), 0, []string{"c"}, 2},
		{"a Data of nothing", dataOf(2, 2, 2, ""), ackOf(2, 2, 2, 0), 2, []string{""}, 2},
		{"a Data that lets others follow", dataOf(2, 1, 2, "l"), ackOf(2, 1, 5, 0), 1, []string{"l", "m", "n", "o"}, 2},
		{"a Hello", helloOf(3), welcomeOf(3, 2, 1, 1), 0, nil, 3},
		{"a Hello of the greatest Epoch", helloOf(api.MaxNumber), welcomeOf(api.MaxNumber, 2, 1, 1), 0, nil, api.MaxNumber},
	}
}

// behind tells the logs when some of the records are committed.
func (c sinkCall) behind(records int) [api.Streams][]string {
	logs := fillingLogs()
	logs[c.stream] = append(logs[c.stream], c.commits[:records]...)
	return logs
}

func logsOf(s *courier.Sink) [api.Streams][]string {
	var logs [api.Streams][]string
	for stream := range logs {
		logs[stream] = s.Log(stream)
	}
	return logs
}

func wantCrash(t *testing.T, s *courier.Sink, frame []byte) {
	t.Helper()
	if got, e := s.Deliver(frame); len(got) != 0 || e != api.ErrCrash {
		t.Fatalf("P10: Deliver(%v) = %v, %d, want ErrCrash", frame, got, e)
	}
}

// openBehind opens the Image of a sink whose disk has failed in a call, and tells how many of the call's records it has.
func (c sinkCall) openBehind(t *testing.T, image []byte) int {
	t.Helper()
	s, e := courier.OpenSink(image)
	if e != api.OK || s.Epoch() != 2 && s.Epoch() != c.epoch {
		t.Fatalf("P10: behind %s: OpenSink: %d", c.name, e)
	}
	records := len(s.Log(c.stream)) - len(fillingLogs()[c.stream])
	if records < 0 || records > len(c.commits) || !equalLists(logsOf(s), c.behind(records)) {
		t.Errorf("P10: behind %s: Logs are %q", c.name, logsOf(s))
	}
	return records
}

// In whichever write of a call the disk fails: of what the call commits the first records are there, and the Epoch is or not.
func TestP10SinkFailsAtEveryWrite(t *testing.T) {
	for _, c := range sinkCalls() {
		var records []int
		for n := 1; ; n++ {
			s := filling(t)
			s.Arm(n)
			if got, e := s.Deliver(c.frame); e == api.OK {
				if len(got) != 1 || !bytes.Equal(got[0], c.answer) || s.Epoch() != c.epoch {
					t.Errorf("P8: %s: %v, Epoch %d", c.name, got, s.Epoch())
				}
				wantCommitted(t, s, c.behind(len(c.commits)))
				break
			} else if e != api.ErrCrash || len(got) != 0 {
				t.Fatalf("P10: %s with write %d armed = %v, %d, want ErrCrash", c.name, n, got, e)
			}
			wantDeadSink(t, s, 2)
			for _, keep := range someKeeps() {
				c.openBehind(t, s.Image(keep))
			}
			records = append(records, c.openBehind(t, s.Image(0)))
		}
		if len(records) == 0 {
			t.Errorf("P10: %s is lasting, but the disk hasn't failed at its first write", c.name)
		}
		// They are lasting one by one, so each number of them may be left.
		for n := range c.commits {
			if !slices.Contains(records, n) {
				t.Errorf("P9: %s: left are %d records, never %d", c.name, records, n)
			}
		}
		if !slices.IsSorted(records) {
			t.Errorf("P9: %s: left are %d records, when the disk fails later and later", c.name, records)
		}
	}
}

func writesOfSink(t *testing.T, c sinkCall) int {
	t.Helper()
	for n := 1; ; n++ {
		s := filling(t)
		s.Arm(n)
		if _, e := s.Deliver(c.frame); e == api.OK {
			return n - 1
		}
	}
}

func TestP10SinkArmIsReachedInALaterCall(t *testing.T) {
	for _, c := range sinkCalls() {
		last := writesOfSink(t, c)
		s := filling(t)
		s.Arm(last)
		wantCrash(t, s, c.frame)
		s = filling(t)
		s.Arm(last + 1)
		wantAnswer(t, s, c.frame, c.answer)
		next := len(c.behind(len(c.commits))[0]) + 1
		wantCrash(t, s, dataOf(c.epoch, 0, next, "z"))
		for _, keep := range someKeeps() {
			again := openSink(t, s.Image(keep), c.epoch)
			want := c.behind(len(c.commits))
			if len(again.Log(0)) == next {
				want[0] = append(want[0], "z")
			}
			wantLogs(t, again, want)
		}
	}
}

// A disk fails neither in questions nor at frames that change nothing on it, however near the write is.
func TestP10SinkNoWriteNoFailure(t *testing.T) {
	s := filling(t)
	s.Arm(1)
	for n := range 30 {
		if !equalLists(logsOf(s), fillingLogs()) || len(s.Image(uint64(n))) != api.SinkDisk || s.Epoch() != 2 {
			t.Fatalf("P10: an armed sink has %q", logsOf(s))
		}
	}
	for _, b := range [][]byte{nil, {1, 2, 3}, withSum([]byte{9, 9})} {
		wantUnanswered(t, s, b)
	}
	wantAnswer(t, s, helloOf(1), resetOf(2))
	wantAnswer(t, s, helloOf(2), welcomeOf(2, 2, 1, 1))
	wantAnswer(t, s, dataOf(1, 0, 3, "x"), resetOf(2))
	wantAnswer(t, s, dataOf(3, 0, 3, "x"), resetOf(3))
	wantAnswer(t, s, dataOf(2, 0, 2, "x"), ackOf(2, 0, 2, 0))
	wantAnswer(t, s, dataOf(2, 0, 4, "d"), ackOf(2, 0, 2, 1)) // held: it is not on the disk
	wantAnswer(t, s, dataOf(2, 0, 9, "x"), ackOf(2, 0, 2, 1))
	wantAnswer(t, s, ackOf(2, 0, 3, 0))
	wantAnswer(t, s, resetOf(3))
	wantAnswer(t, s, welcomeOf(2, 9, 9, 9))
	wantCrash(t, s, dataOf(2, 0, 3, "c"))
	wantDeadSink(t, s, 2)
}

func TestP10SinkArmsThatDontFail(t *testing.T) {
	for _, n := range append(noArms, math.MaxInt, math.MaxInt32, 1000) {
		s := newSink(t)
		s.Arm(n)
		var want [api.Streams][]string
		for i := range api.Log {
			wantAnswer(t, s, helloOf(i), welcomeOf(i, (i+2)/3, (i+1)/3, i/3))
			wantAnswer(t, s, dataOf(i, i%3, i/3+1, "x"), ackOf(i, i%3, i/3+1, 0))
			want[i%3] = append(want[i%3], "x")
		}
		wantCommitted(t, s, want)
	}
}

// An Arm takes the place of an earlier one, and counts anew.
func TestP10SinkArmTakesThePlaceOfAnother(t *testing.T) {
	last := writesOfSink(t, sinkCalls()[0])
	data := func(seq int) []byte { return dataOf(2, 0, seq, "x") }
	for _, n := range noArms {
		s := filling(t)
		s.Arm(1)
		s.Arm(n)
		for seq := 3; seq < 13; seq++ {
			wantAnswer(t, s, data(seq), ackOf(2, 0, seq, 0))
		}
	}
	s := filling(t)
	s.Arm(1)
	s.Arm(last + 1)
	wantAnswer(t, s, data(3), ackOf(2, 0, 3, 0))
	wantCrash(t, s, data(4))
	s = filling(t)
	s.Arm(100)
	s.Arm(last)
	wantCrash(t, s, data(3))
	s = filling(t)
	for seq := 3; seq < 13; seq++ {
		s.Arm(last + 1)
		wantAnswer(t, s, data(seq), ackOf(2, 0, seq, 0))
	}
	wantCrash(t, s, data(13))
	s = filling(t)
	s.Arm(-5)
	s.Arm(1)
	wantCrash(t, s, helloOf(3))
}

func TestP10ArmOfADeadSink(t *testing.T) {
	for _, c := range sinkCalls() {
		s := filling(t)
		s.Arm(1)
		wantCrash(t, s, c.frame)
		wantDeadDisk(t, s, func() { wantDeadSink(t, s, 2) })
	}
}

func TestP2DeadSinksAreApart(t *testing.T) {
	s := filling(t)
	s.Arm(1)
	wantCrash(t, s, dataOf(2, 0, 3, "s"))
	image := s.Image(1)
	was := slices.Clone(image)
	again := openSink(t, image, 2)
	wantAnswer(t, again, helloOf(3), welcomeOf(3, len(again.Log(0)), 1, 1))
	if !bytes.Equal(image, was) || !bytes.Equal(s.Image(1), was) || bytes.Equal(again.Image(1), was) {
		t.Error("P2: a sink wrote where it should not")
	}
}

func TestP10ArmIsOfOneSink(t *testing.T) {
	s := filling(t)
	disk := s.Image(0)
	u, v := openSink(t, disk, 2), openSink(t, disk, 2)
	u.Arm(1)
	wantAnswer(t, s, dataOf(2, 0, 3, "s"), ackOf(2, 0, 3, 0))
	wantAnswer(t, v, dataOf(2, 0, 3, "v"), ackOf(2, 0, 3, 0))
	wantCrash(t, u, dataOf(2, 0, 3, "u"))
	wantAnswer(t, s, dataOf(2, 0, 4, "s"), ackOf(2, 0, 4, 0))
	wantAnswer(t, v, dataOf(2, 0, 4, "v"), ackOf(2, 0, 4, 0))
	w := openSink(t, u.Image(0), 2)
	n := len(w.Log(0))
	wantAnswer(t, w, dataOf(2, 0, n+1, "w"), ackOf(2, 0, n+1, 0))
	wantLogs(t, v, with(fillingLogs(), 0, "a", "b", "v", "v"))
	wantDeadSink(t, u, 2)
}

// A sink that is opened behind a failure holds nothing, and goes on from what is committed.
func TestP10SinkOpenedBehindAFailure(t *testing.T) {
	s := filling(t)
	s.Arm(2)
	wantCrash(t, s, dataOf(2, 1, 2, "l"))
	again := openSink(t, s.Image(0), 2)
	n := len(again.Log(1))
	wantAnswer(t, again, helloOf(2), welcomeOf(2, 2, n, 1))
	wantAnswer(t, again, dataOf(2, 1, n+1, "next"), ackOf(2, 1, n+1, 0))
	wantAnswer(t, again, dataOf(2, 1, n+3, "later"), ackOf(2, 1, n+1, 1))
	wantCommitted(t, again, with(fillingLogs(), 1, append([]string{"k", "l", "m", "n", "o"}[:n], "next")...))
}

// A disk that fails in a Hello: nothing was answered, and the sink that is opened behind it is of that Epoch or the earlier one.
func TestP10SinkFailsInAHello(t *testing.T) {
	s := filling(t)
	s.Arm(1)
	wantCrash(t, s, helloOf(9))
	for _, keep := range someKeeps() {
		again, e := courier.OpenSink(s.Image(keep))
		if e != api.OK || again.Epoch() != 2 && again.Epoch() != 9 {
			t.Fatalf("P10: OpenSink: %d", e)
		}
		wantLogs(t, again, fillingLogs())
		wantAnswer(t, again, helloOf(9), welcomeOf(9, 2, 1, 1))
		wantAnswer(t, again, helloOf(2), resetOf(9))
		wantAnswer(t, again, dataOf(9, 1, 2, "l"), ackOf(9, 1, 2, 0))
		wantCommitted(t, again, with(fillingLogs(), 1, "k", "l"))
	}
}

// The last places of the log: a sink that fails there is none that has more than 120 records, or fewer than it had.
func TestP10SinkFailsWhereTheLogEnds(t *testing.T) {
	for n := 1; n <= 4; n++ {
		s := filledSink(t, 50, 40, 27)
		for seq := 42; seq <= 44; seq++ {
			if _, e := s.Deliver(dataOf(s.Epoch(), 1, seq, strconv.Itoa(seq))); e != api.OK {
				t.Fatalf("P8: Deliver = %d", e)
			}
		}
		s.Arm(n)
		_, e := s.Deliver(dataOf(s.Epoch(), 1, 41, "41"))
		again := openSink(t, s.Image(math.MaxUint64), s.Epoch())
		log := again.Log(1)[40:]
		if (e == api.OK) != (len(log) == 3) || len(log) > 3 || !slices.Equal(log, []string{"41", "42", "43"}[:len(log)]) {
			t.Errorf("P10: with write %d armed: %d, and %q", n, e, log)
		}
	}
}

// An Image opened, and that one's again, whatever is kept: each has what was lasting.
func TestP10ImagesOfSinkImages(t *testing.T) {
	s := filling(t)
	want, epoch := fillingLogs(), 2
	for i, keep := range someKeeps() {
		s = openSink(t, s.Image(keep), epoch)
		wantLogs(t, s, want)
		if i%2 == 0 {
			n := len(want[2]) + 1
			wantAnswer(t, s, dataOf(epoch, 2, n+1, "held"), ackOf(epoch, 2, n-1, 1))
			want[2] = append(want[2], "more", "held")
			wantAnswer(t, s, dataOf(epoch, 2, n, "more"), ackOf(epoch, 2, n+1, 0))
		} else {
			epoch += i
			wantAnswer(t, s, helloOf(epoch), welcomeOf(epoch, 2, 1, len(want[2])))
		}
	}
}

package courier_test

import (
	"bytes"
	"encoding/binary"
	"math"
	"math/big"
	"math/rand"
	"slices"
	"strings"
	"testing"

	"courier/api"
	"courier/courier"
)

// sumOf works the sum out by numbers without a bound, and makes it go round only at the end.
func sumOf(b []byte) uint32 {
	s := big.NewInt(7)
	for _, c := range b {
		s.Mul(s, big.NewInt(31))
		s.Add(s, big.NewInt(int64(c)))
	}
	return uint32(s.Mod(s, big.NewInt(1<<32)).Uint64())
}

func withSum(b []byte) []byte {
	return binary.LittleEndian.AppendUint32(slices.Clone(b), sumOf(b))
}

// bytesOf lays parts out as a frame's bytes, whether there is such a frame or not.
func bytesOf(kind byte, epoch uint32, stream byte, seq uint32, length byte, body string) []byte {
	b := binary.LittleEndian.AppendUint32([]byte{kind}, epoch)
	b = binary.LittleEndian.AppendUint32(append(b, stream), seq)
	return withSum(append(append(b, length), body...))
}

func bytesOfFrame(f api.Frame) []byte {
	return bytesOf(byte(f.Kind), uint32(f.Epoch), byte(f.Stream), uint32(f.Seq), byte(len(f.Body)), f.Body)
}

// fits tells if the parts of a frame have room where its bytes have them.
func fits(f api.Frame) bool {
	const most = math.MaxUint32
	return f.Kind >= 0 && f.Kind < 256 && f.Stream >= 0 && f.Stream < 256 && len(f.Body) < 256 &&
		f.Epoch >= 0 && f.Epoch <= most && f.Seq >= 0 && f.Seq <= most
}

const (
	nought  = "\x00\x00\x00\x00"
	one     = "\x01\x00\x00\x00"
	greater = "\xff\xff\xff\x7f"
	tooHigh = "\x00\x00\x00\x80"
	below0  = "\xff\xff\xff\xff"
)

// Edges of every part of a frame: what is right at a place and what is not.
var (
	kinds   = []int{math.MinInt, -3, -1, 0, 1, 2, 3, 4, 5, 6, 7, 255, 256, 257, 258, 259, 260, 261, 1<<32 + 3, math.MaxInt}
	numbers = []int{math.MinInt, -1 << 32, -1, 0, 1, 255, 256, 65536, api.MaxNumber - 1, api.MaxNumber, api.MaxNumber + 1, math.MaxUint32, 1 << 32, 1<<32 + 1, math.MaxInt}
	streams = []int{math.MinInt, -1, 0, 1, 2, 3, 4, 255, 256, 257, 1 << 32, math.MaxInt}
	records = []string{"", "\x00", "a", "\x07", "\x08", "\x80", "\xff", "ab", "\x00\x00", "é世", strings.Repeat("\xff", 11), "1234567890123", "1234567890123456789", "12345678901234567890", strings.Repeat("\x00", 20)}
	starts  = []string{nought + nought + nought, one + greater + nought, greater + greater + greater, "123456789012"}
	wrongs  = []string{tooHigh + nought + nought, nought + tooHigh + nought, nought + nought + tooHigh, below0 + below0 + below0, one + one + "\x01\x02\x03\xff"}
	longs   = []string{"123456789012345678901", strings.Repeat("x", 32), strings.Repeat("x", 255), strings.Repeat("x", 256), strings.Repeat("x", 257), strings.Repeat("x", 256+12), strings.Repeat("x", 1<<16)}
	bodies  = slices.Concat(records, starts, wrongs, longs)
)

// lawful are, of the edges, those that the document gives to each kind.
var lawful = map[int]struct {
	streams, seqs []int
	bodies        []string
}{
	api.Hello:   {[]int{0}, []int{0}, []string{""}},
	api.Welcome: {[]int{0}, []int{0}, starts},
	api.Data:    {[]int{0, 1, 2}, []int{1, 255, 256, 65536, api.MaxNumber - 1, api.MaxNumber}, slices.Concat(records, starts, wrongs)},
	api.Ack:     {[]int{0, 1, 2}, []int{0, 1, 255, 256, 65536, api.MaxNumber - 1, api.MaxNumber}, []string{"\x00", "\x07"}},
	api.Reset:   {[]int{0}, []int{0}, []string{""}},
}

var lawfulEpochs = []int{0, 1, 255, 256, 65536, api.MaxNumber - 1, api.MaxNumber}

func isLawful(f api.Frame) bool {
	l, ok := lawful[f.Kind]
	return ok && slices.Contains(lawfulEpochs, f.Epoch) && slices.Contains(l.streams, f.Stream) &&
		slices.Contains(l.seqs, f.Seq) && slices.Contains(l.bodies, f.Body)
}

func someFrames() []api.Frame {
	return []api.Frame{
		{Kind: api.Hello},
		{Kind: api.Hello, Epoch: api.MaxNumber},
		{Kind: api.Welcome, Epoch: 3, Body: one + greater + nought},
		{Kind: api.Data, Epoch: 1, Seq: 1},
		{Kind: api.Data, Epoch: 1, Stream: 1, Seq: 2, Body: "a"},
		{Kind: api.Data, Epoch: 70000, Stream: 2, Seq: api.MaxNumber, Body: "12345678901234567890"},
		{Kind: api.Data, Epoch: 9, Seq: 1, Body: strings.Repeat("\xff", 20)},
		{Kind: api.Ack, Epoch: 1, Stream: 2, Body: "\x00"},
		{Kind: api.Ack, Epoch: 1, Stream: 1, Seq: api.MaxNumber, Body: "\x07"},
		{Kind: api.Reset, Epoch: 258},
	}
}

func wantFrame(t *testing.T, b []byte, want api.Frame) {
	t.Helper()
	if f, e := courier.Decode(b); f != want || e != api.OK {
		t.Fatalf("P3: Decode(%v) = %#v, %d, want %#v", b, f, e, want)
	}
}

func wantNoFrame(t *testing.T, b []byte) {
	t.Helper()
	if f, e := courier.Decode(b); f != (api.Frame{}) || e != api.ErrFrame {
		t.Fatalf("P3: Decode(%v) = %#v, %d, want ErrFrame", b, f, e)
	}
}

func wantBytes(t *testing.T, f api.Frame, want []byte) {
	t.Helper()
	if b, e := courier.Encode(f); !bytes.Equal(b, want) || e != api.OK {
		t.Fatalf("P3: Encode(%#v) = %v, %d, want %v", f, b, e, want)
	}
}

func wantNoBytes(t *testing.T, f api.Frame) {
	t.Helper()
	if b, e := courier.Encode(f); b != nil || e != api.ErrFrame {
		t.Fatalf("P3: Encode(%#v) = %v, %d, want ErrFrame", f, b, e)
	}
}

// The bytes here were worked out aside, and written down.
func TestP3BytesWrittenDown(t *testing.T) {
	for _, c := range []struct {
		frame api.Frame
		bytes string
	}{
		{api.Frame{Kind: 1, Epoch: 1}, "\x01\x01\x00\x00\x00\x00\x00\x00\x00\x00\x00\x79\xa9\x09\xbf"},
		{api.Frame{Kind: 2, Epoch: 1, Body: nought + nought + nought}, "\x02\x01\x00\x00\x00\x00\x00\x00\x00\x00\x0c" + nought + nought + nought + "\x46\x23\x18\x2d"},
		{api.Frame{Kind: 3, Epoch: 1, Seq: 1, Body: "a"}, "\x03\x01\x00\x00\x00\x00\x01\x00\x00\x00\x01a\x84\xa9\x43\x33"},
		{api.Frame{Kind: 4, Epoch: 1, Body: "\x01"}, "\x04\x01\x00\x00\x00\x00\x00\x00\x00\x00\x01\x01\xe4\x75\x40\x39"},
	} {
		wantBytes(t, c.frame, []byte(c.bytes))
		wantFrame(t, []byte(c.bytes), c.frame)
	}
}

func TestP3EveryEdge(t *testing.T) {
	count := 0
	for _, kind := range kinds {
		for _, stream := range streams {
			for _, seq := range numbers {
				for _, body := range bodies {
					for _, epoch := range []int{0, api.MaxNumber} {
						f := api.Frame{Kind: kind, Epoch: epoch, Stream: stream, Seq: seq, Body: body}
						checkFrame(t, f, isLawful(f))
						if isLawful(f) {
							count++
						}
					}
				}
			}
		}
	}
	// For each epoch: a Hello, a Reset, 4 Welcomes, and of 3 streams Data of 6 numbers and 24 records, Acks of 7 numbers and 2 bytes.
	if want := 2 * (2 + 4 + 3*6*24 + 3*7*2); count != want {
		t.Errorf("P3: %d frames were made of the edges, want %d", count, want)
	}
}

func TestP3EveryEpoch(t *testing.T) {
	for _, f := range someFrames() {
		for _, epoch := range numbers {
			f.Epoch = epoch
			checkFrame(t, f, slices.Contains(lawfulEpochs, epoch))
		}
	}
}

func TestP3EveryAckByte(t *testing.T) {
	for bits := range 256 {
		f := api.Frame{Kind: api.Ack, Epoch: 1, Seq: 5, Body: string([]byte{byte(bits)})}
		checkFrame(t, f, bits <= 7)
	}
}

func TestP3EveryLengthOfBody(t *testing.T) {
	for _, kind := range []int{api.Hello, api.Welcome, api.Data, api.Ack, api.Reset} {
		for n := range 300 {
			f := api.Frame{Kind: kind, Epoch: 1, Body: strings.Repeat("\x01", n)}
			if kind == api.Data {
				f.Seq = 1
			}
			right := map[int]bool{api.Hello: n == 0, api.Welcome: n == 12, api.Data: n <= 20, api.Ack: n == 1, api.Reset: n == 0}
			checkFrame(t, f, right[kind])
		}
	}
}

// checkFrame asks both calls whether a frame is one.
func checkFrame(t *testing.T, f api.Frame, right bool) {
	t.Helper()
	if right {
		wantBytes(t, f, bytesOfFrame(f))
		wantFrame(t, bytesOfFrame(f), f)
		return
	}
	wantNoBytes(t, f)
	if fits(f) {
		wantNoFrame(t, bytesOfFrame(f))
	}
}

func TestP3TooFewAndTooMany(t *testing.T) {
	wantNoFrame(t, nil)
	wantNoFrame(t, []byte{})
	for _, f := range someFrames() {
		b := bytesOfFrame(f)
		for n := range b {
			wantNoFrame(t, slices.Clone(b[:n]))
			wantNoFrame(t, slices.Clone(b[n+1:]))
		}
		for c := range 256 {
			wantNoFrame(t, append(slices.Clone(b), byte(c)))
		}
		wantNoFrame(t, slices.Concat(b, b))
		wantNoFrame(t, slices.Concat([]byte{0}, b))
	}
	for n := range 40 {
		wantNoFrame(t, make([]byte, n))
	}
}

// The sum is right here, but another number of bytes is told than there are.
func TestP3LengthThatIsUntrue(t *testing.T) {
	for have := range 41 {
		for told := range 256 {
			f := api.Frame{Kind: api.Data, Epoch: 1, Seq: 1, Body: strings.Repeat("x", have)}
			b := bytesOf(api.Data, 1, 0, 1, byte(told), f.Body)
			if told == have && have <= 20 {
				wantFrame(t, b, f)
			} else {
				wantNoFrame(t, b)
			}
		}
	}
	for told := 1; told < 256; told++ {
		wantNoFrame(t, bytesOf(api.Hello, 1, 0, 0, byte(told), ""))
		wantNoFrame(t, bytesOf(api.Hello, 1, 0, 0, byte(told), "\x00"))
	}
	// A head cut short, with a right sum of what is left of it.
	for n := range 11 {
		wantNoFrame(t, withSum(bytesOf(api.Hello, 1, 0, 0, 0, "")[:n]))
	}
}

func TestP3SpoiltBytes(t *testing.T) {
	for _, f := range someFrames() {
		b := bytesOfFrame(f)
		for at := range b {
			for d := 1; d < 256; d++ {
				spoilt := slices.Clone(b)
				spoilt[at] += byte(d)
				wantNoFrame(t, spoilt)
			}
		}
		head, sum := b[:len(b)-4], binary.LittleEndian.Uint32(b[len(b)-4:])
		wantNoFrame(t, binary.BigEndian.AppendUint32(slices.Clone(head), sum))
		wantNoFrame(t, binary.LittleEndian.AppendUint32(slices.Clone(head), ^sum))
	}
}

// The sums of these frames are beside the ends of what four bytes hold.
func TestP3SumsThatGoRound(t *testing.T) {
	low, high := uint32(math.MaxUint32), uint32(0)
	for seq := 1; seq < 1<<16; seq++ {
		f := api.Frame{Kind: api.Data, Epoch: api.MaxNumber, Stream: 2, Seq: seq, Body: "\xff\xff\xff\xff"}
		b := bytesOfFrame(f)
		s := binary.LittleEndian.Uint32(b[len(b)-4:])
		if s < low || s > high {
			low, high = min(s, low), max(s, high)
			wantBytes(t, f, b)
			wantFrame(t, b, f)
		}
	}
	if low > 1<<24 || high < math.MaxUint32-1<<24 {
		t.Errorf("the sums tried are %d to %d: not beside the ends", low, high)
	}
}

// Bytes with a right sum are a frame's only if Encode makes them of what Decode says.
func TestP3ThereAndBack(t *testing.T) {
	r := rand.New(rand.NewSource(3))
	small := []byte{0, 0, 0, 0, 1, 2, 3, 4, 5, 7, 8, 12, 20, 127, 128, 255}
	found := 0
	for range 200000 {
		b := make([]byte, 11+r.Intn(22))
		for i := range b {
			b[i] = small[r.Intn(len(small))]
		}
		b[10] = byte(len(b) - 11)
		b = withSum(b)
		f, e := courier.Decode(b)
		if e != api.OK {
			wantNoFrame(t, b)
			continue
		}
		found++
		wantBytes(t, f, b)
	}
	if found < 100 {
		t.Errorf("only %d frames were tried", found)
	}
}

func TestP1FramesNeverPanic(t *testing.T) {
	r := rand.New(rand.NewSource(1))
	for n := range 600 {
		for range 20 {
			b := make([]byte, n)
			r.Read(b)
			courier.Decode(b)
			if n > 10 {
				b[0], b[10] = byte(r.Intn(7)), byte(r.Intn(256))
				courier.Decode(withSum(b))
				courier.Decode(b)
			}
		}
	}
	ends := []int{math.MinInt, math.MinInt32, -1, 0, 1, 2, 3, 4, 5, math.MaxInt32, math.MaxUint32, math.MaxInt}
	for _, kind := range ends {
		for _, epoch := range ends {
			for _, seq := range ends {
				for _, stream := range ends {
					for _, body := range []string{"", "\x00", "12345678901", "123456789012", "\xff\xfe"} {
						courier.Encode(api.Frame{Kind: kind, Epoch: epoch, Stream: stream, Seq: seq, Body: body})
					}
				}
			}
		}
	}
}

func TestP1HugeLists(t *testing.T) {
	huge := make([]byte, 1<<24)
	wantNoFrame(t, huge)
	huge[0], huge[6], huge[10] = api.Data, 1, 255
	wantNoFrame(t, withSum(huge[:1<<16]))
	for kind := range 7 {
		wantNoBytes(t, api.Frame{Kind: kind, Seq: 1, Body: string(huge)})
	}
}

// With an error every other result is empty, so neither call may tell a part of what it has read.
func TestP1NothingBesideAnError(t *testing.T) {
	for _, f := range someFrames() {
		b := bytesOfFrame(f)
		b[len(b)-1]++
		wantNoFrame(t, b)
		f.Epoch = -1
		wantNoBytes(t, f)
	}
}

// scribble writes into a list and into its spare room.
func scribble(b []byte) {
	b = b[:cap(b)]
	for i := range b {
		b[i] ^= 0xff
	}
}

// Bytes of a frame, bytes cut short, with a spoilt sum, with a right sum but of no frame: all are left as they were.
func TestP2DecodeWritesNothing(t *testing.T) {
	for _, f := range someFrames() {
		right := bytesOfFrame(f)
		spoilt := bytesOfFrame(f)
		spoilt[len(spoilt)-2] ^= 0x10
		f.Epoch = math.MaxUint32
		for _, b := range [][]byte{right, spoilt, bytesOfFrame(f)} {
			for n := range len(b) + 1 {
				checkWritesNothing(t, b, n)
			}
		}
	}
}

// checkWritesNothing has Decode take the first n of some bytes, with and without spare room behind them.
func checkWritesNothing(t *testing.T, b []byte, n int) {
	t.Helper()
	room := slices.Concat([]byte("ahead"), b, bytes.Repeat([]byte{0xa5}, 64))
	was := slices.Clone(room)
	courier.Decode(room[5 : 5+n])
	courier.Decode(room[5 : 5+n : 5+n])
	if !bytes.Equal(room, was) {
		t.Fatalf("P2: Decode of %d bytes of %v wrote into them or beside them: %v", n, b, room)
	}
}

func TestP2DecodeKeepsNothing(t *testing.T) {
	for _, f := range someFrames() {
		b := bytesOfFrame(f)
		first, _ := courier.Decode(b)
		scribble(b)
		if first != f {
			t.Errorf("P2: a frame changed with the bytes that it was made of: %#v, was %#v", first, f)
		}
		wantNoFrame(t, b)
		scribble(b)
		second, _ := courier.Decode(b)
		if first != f || second != f {
			t.Errorf("P2: Decode of the same bytes again: %#v, then %#v", first, second)
		}
	}
}

func TestP2EncodeSharesNothing(t *testing.T) {
	for _, f := range someFrames() {
		want := bytesOfFrame(f)
		first, _ := courier.Encode(f)
		second, _ := courier.Encode(f)
		scribble(first)
		if !bytes.Equal(second, want) {
			t.Errorf("P2: bytes that came out of Encode changed with those that came before: %v", second)
		}
		wantBytes(t, f, want)
		again := append(second[:4:cap(second)], "written over all of it, and more than it has room for"...)
		scribble(again)
		wantBytes(t, f, want)
	}
}

func TestP2BodyComesOutFresh(t *testing.T) {
	for _, f := range someFrames() {
		b, _ := courier.Encode(f)
		g, _ := courier.Decode(b)
		c, _ := courier.Encode(g)
		scribble(b)
		if g != f || !bytes.Equal(c, bytesOfFrame(f)) {
			t.Errorf("P2: what came out of Encode is still in use: %#v, %v", g, c)
		}
		scribble(c)
		if g != f {
			t.Errorf("P2: Encode handed out the frame's own bytes: %#v", g)
		}
	}
}

func FuzzDecode(f *testing.F) {
	for _, g := range someFrames() {
		f.Add(bytesOfFrame(g))
	}
	f.Fuzz(func(t *testing.T, b []byte) {
		for _, b := range [][]byte{b, withSum(b)} {
			if g, e := courier.Decode(b); e == api.OK {
				wantBytes(t, g, b)
			} else {
				wantNoFrame(t, b)
			}
		}
	})
}

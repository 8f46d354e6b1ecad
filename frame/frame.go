// Package frame: which frames there are, and their bytes.
package frame

import (
	"courier/api"
	"courier/number"
)

// Where the parts of a frame stand among its bytes; the sum follows the body.
const (
	kindAt   = 0
	epochAt  = 1
	streamAt = 5
	seqAt    = 6
	lengthAt = 10
	bodyAt   = 11
	sumSize  = number.Size
)

const (
	welcomeSize = api.Streams * number.Size
	mostHeld    = 1<<api.Ahead - 1 // a bit for each record that a sink may hold
)

// Encode makes bytes of a frame, ErrFrame if it is none.
func Encode(f api.Frame) ([]byte, api.Errno) {
	if !isFrame(f) {
		return nil, api.ErrFrame
	}
	return Bytes(f), api.OK
}

// Bytes makes bytes of what the caller knows to be a frame.
func Bytes(f api.Frame) []byte {
	b := make([]byte, 0, bodyAt+len(f.Body)+sumSize)
	b = append(b, byte(f.Kind))
	b = number.Append(b, uint32(f.Epoch))
	b = append(b, byte(f.Stream))
	b = number.Append(b, uint32(f.Seq))
	b = append(b, byte(len(f.Body)))
	b = append(b, f.Body...)
	return number.Append(b, sum(b))
}

// Decode makes a frame of bytes, ErrFrame if they are no frame's.
func Decode(b []byte) (api.Frame, api.Errno) {
	if !isWhole(b) {
		return api.Frame{}, api.ErrFrame
	}
	f := api.Frame{
		Kind:   int(b[kindAt]),
		Epoch:  int(number.At(b[epochAt:])),
		Stream: int(b[streamAt]),
		Seq:    int(number.At(b[seqAt:])),
		Body:   string(b[bodyAt : len(b)-sumSize]),
	}
	if !isFrame(f) {
		return api.Frame{}, api.ErrFrame
	}
	return f, api.OK
}

// WelcomeBody makes the body of a Welcome that says these numbers, one for each stream.
func WelcomeBody(committed [api.Streams]int) string {
	var b []byte
	for _, n := range committed {
		b = number.Append(b, uint32(n))
	}
	return string(b)
}

// Committed tells the numbers that the body of a Welcome says, one for each stream.
func Committed(welcome string) [api.Streams]int {
	var numbers [api.Streams]int
	for i := range numbers {
		numbers[i] = int(number.At(welcome[i*number.Size:]))
	}
	return numbers
}

// AckBody makes the body of an Ack that says which records are held, if it says that a stream is committed up to seq.
func AckBody(seq int, isHeld func(int) bool) string {
	var bits byte
	for i := range api.Ahead {
		if isHeld(firstHeld(seq) + i) {
			bits |= 1 << i
		}
	}
	return string([]byte{bits})
}

// Held tells the numbers of the records that an Ack says are held, if it says that a stream is committed up to seq.
func Held(seq int, ack string) []int {
	var numbers []int
	for i := range api.Ahead {
		if ack[0]>>i&1 == 1 {
			numbers = append(numbers, firstHeld(seq)+i)
		}
	}
	return numbers
}

// firstHeld tells for which record the first bit stands: the one behind seq is that which a sink waits for.
func firstHeld(seq int) int { return seq + 2 }

// isWhole tells if bytes are as many as they say, and their sum is right.
func isWhole(b []byte) bool {
	if len(b) < bodyAt+sumSize || len(b) != bodyAt+int(b[lengthAt])+sumSize {
		return false
	}
	end := len(b) - sumSize
	return number.At(b[end:]) == sum(b[:end])
}

// isFrame tells if a frame is one of those that the document names.
func isFrame(f api.Frame) bool {
	if !isNumber(f.Epoch) {
		return false
	}
	switch f.Kind {
	case api.Hello, api.Reset:
		return f.Stream == 0 && f.Seq == 0 && f.Body == ""
	case api.Welcome:
		return f.Stream == 0 && f.Seq == 0 && isWelcomeBody(f.Body)
	case api.Data:
		return IsStream(f.Stream) && f.Seq != 0 && isNumber(f.Seq) && len(f.Body) <= api.MaxBody
	case api.Ack:
		return IsStream(f.Stream) && isNumber(f.Seq) && isAckBody(f.Body)
	}
	return false
}

// IsStream tells if there is such a stream.
func IsStream(n int) bool { return n >= 0 && n < api.Streams }

func isNumber(n int) bool { return n >= 0 && n <= api.MaxNumber }

func isWelcomeBody(body string) bool {
	if len(body) != welcomeSize {
		return false
	}
	for _, n := range Committed(body) {
		if !isNumber(n) {
			return false
		}
	}
	return true
}

func isAckBody(body string) bool { return len(body) == 1 && body[0] <= mostHeld }

// sum leans on uint32 going round at 2^32.
func sum(b []byte) uint32 {
	s := uint32(7)
	for _, c := range b {
		s = s*31 + uint32(c)
	}
	return s
}

// Package frame: which frames there are, and their bytes.
package frame

import "courier/api"

// Where the parts of a frame stand among its bytes; the sum follows the body.
const (
	kindAt     = 0
	epochAt    = 1
	streamAt   = 5
	seqAt      = 6
	lengthAt   = 10
	bodyAt     = 11
	numberSize = 4
)

const (
	welcomeSize = api.Streams * numberSize
	mostHeld    = 1<<api.Ahead - 1 // a bit for each record that a sink may hold
)

// Encode makes bytes of a frame, ErrFrame if it is none.
func Encode(f api.Frame) ([]byte, api.Errno) {
	if !isFrame(f) {
		return nil, api.ErrFrame
	}
	b := make([]byte, 0, bodyAt+len(f.Body)+numberSize)
	b = append(b, byte(f.Kind))
	b = appendNumber(b, uint32(f.Epoch))
	b = append(b, byte(f.Stream))
	b = appendNumber(b, uint32(f.Seq))
	b = append(b, byte(len(f.Body)))
	b = append(b, f.Body...)
	return appendNumber(b, sum(b)), api.OK
}

// Decode makes a frame of bytes, ErrFrame if they are no frame's.
func Decode(b []byte) (api.Frame, api.Errno) {
	if !isWhole(b) {
		return api.Frame{}, api.ErrFrame
	}
	f := api.Frame{
		Kind:   int(b[kindAt]),
		Epoch:  int(number(b[epochAt:])),
		Stream: int(b[streamAt]),
		Seq:    int(number(b[seqAt:])),
		Body:   string(b[bodyAt : len(b)-numberSize]),
	}
	if !isFrame(f) {
		return api.Frame{}, api.ErrFrame
	}
	return f, api.OK
}

// isWhole tells if bytes are as many as they say, and their sum is right.
func isWhole(b []byte) bool {
	if len(b) < bodyAt+numberSize || len(b) != bodyAt+int(b[lengthAt])+numberSize {
		return false
	}
	end := len(b) - numberSize
	return number(b[end:]) == sum(b[:end])
}

// isFrame tells if a frame is one of those that the document names.
func isFrame(f api.Frame) bool {
	if !isNumber(f.Epoch) {
		return false
	}
	switch f.Kind {
	case api.Hello, api.Reset:
		return f.Stream == 0 && f.Seq == 0 && f.Body == ""
	case api.Welcome:
		return f.Stream == 0 && f.Seq == 0 && isWelcomeBody(f.Body)
	case api.Data:
		return isStream(f.Stream) && f.Seq != 0 && isNumber(f.Seq) && len(f.Body) <= api.MaxBody
	case api.Ack:
		return isStream(f.Stream) && isNumber(f.Seq) && isAckBody(f.Body)
	}
	return false
}

func isStream(n int) bool { return n >= 0 && n < api.Streams }

func isNumber(n int) bool { return n >= 0 && n <= api.MaxNumber }

func isWelcomeBody(body string) bool {
	if len(body) != welcomeSize {
		return false
	}
	for at := 0; at < welcomeSize; at += numberSize {
		if number(body[at:]) > api.MaxNumber {
			return false
		}
	}
	return true
}

func isAckBody(body string) bool { return len(body) == 1 && body[0] <= mostHeld }

// appendNumber appends four bytes, the lowest first.
func appendNumber(b []byte, n uint32) []byte {
	return append(b, byte(n), byte(n>>8), byte(n>>16), byte(n>>24))
}

// number reads what appendNumber wrote, at the beginning of at least four bytes.
func number[B string | []byte](b B) uint32 {
	return uint32(b[0]) | uint32(b[1])<<8 | uint32(b[2])<<16 | uint32(b[3])<<24
}

// sum leans on uint32 going round at 2^32.
func sum(b []byte) uint32 {
	s := uint32(7)
	for _, c := range b {
		s = s*31 + uint32(c)
	}
	return s
}

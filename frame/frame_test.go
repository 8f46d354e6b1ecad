package frame

import (
	"math"
	"slices"
	"testing"

	"courier/api"
)

func TestWelcomeBodies(t *testing.T) {
	if got := WelcomeBody([api.Streams]int{1, 0x01020304, api.MaxNumber}); got != "\x01\x00\x00\x00\x04\x03\x02\x01\xff\xff\xff\x7f" {
		t.Errorf("WelcomeBody: %q", got)
	}
	for _, n := range [][api.Streams]int{{}, {1, 2, 3}, {api.MaxNumber, 0, 120}, {255, 256, 65536}} {
		if got := Committed(WelcomeBody(n)); got != n {
			t.Errorf("Committed: %d, want %d", got, n)
		}
	}
}

func TestAckBodies(t *testing.T) {
	for _, seq := range []int{0, 1, 118, api.MaxNumber} {
		for bits := range 8 {
			var want []int
			for i := range 3 {
				if bits>>i&1 == 1 {
					want = append(want, seq+2+i)
				}
			}
			body := string([]byte{byte(bits)})
			if got := Held(seq, body); !slices.Equal(got, want) {
				t.Errorf("Held(%d, %q) = %d, want %d", seq, body, got, want)
			}
			isHeld := func(n int) bool { return n <= seq+1 || n > seq+4 || slices.Contains(want, n) }
			if got := AckBody(seq, isHeld); got != body {
				t.Errorf("AckBody(%d, %d) = %q, want %q", seq, want, got, body)
			}
		}
	}
}

func TestIsStream(t *testing.T) {
	for n, want := range map[int]bool{math.MinInt: false, -1: false, 0: true, 1: true, 2: true, 3: false, 256: false, 1 << 32: false, math.MaxInt: false} {
		if IsStream(n) != want {
			t.Errorf("IsStream(%d) = %v", n, !want)
		}
	}
}

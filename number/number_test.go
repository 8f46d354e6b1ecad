package number

import (
	"encoding/binary"
	"math"
	"testing"
)

func TestThereAndBack(t *testing.T) {
	for _, n := range []uint32{0, 1, 255, 256, 65535, 65536, 1 << 24, 0x04030201, math.MaxInt32, 1 << 31, math.MaxUint32} {
		b := Append([]byte("ahead"), n)
		if len(b) != 5+Size || string(b[:5]) != "ahead" || binary.LittleEndian.Uint32(b[5:]) != n {
			t.Errorf("Append of %d: %v", n, b)
		}
		if got := At(append(b[5:], 0xff)); got != n {
			t.Errorf("At of bytes: %d, want %d", got, n)
		}
		if got := At(string(b[5:]) + "behind"); got != n {
			t.Errorf("At of a string: %d, want %d", got, n)
		}
	}
}

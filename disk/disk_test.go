package disk

import (
	"bytes"
	"math"
	"slices"
	"testing"

	"courier/api"
)

func filled(fill byte) Sector {
	return Sector(bytes.Repeat([]byte{fill}, api.Sector))
}

// wantFills asks by what each sector of an image is filled.
func wantFills(t *testing.T, image []byte, fills ...byte) {
	t.Helper()
	var want []byte
	for _, fill := range fills {
		want = append(want, bytes.Repeat([]byte{fill}, api.Sector)...)
	}
	if !bytes.Equal(image, want) {
		t.Errorf("an image is %v, want sectors of %d", image, fills)
	}
}

func TestUnsyncedWritesAreKeptByTheirBits(t *testing.T) {
	d := New(make([]byte, 3*api.Sector))
	d.Write(0, filled(1))
	d.Write(2, filled(2))
	d.Write(0, filled(3))
	wantFills(t, d.Image(0), 0, 0, 0)
	wantFills(t, d.Image(1), 1, 0, 0)
	wantFills(t, d.Image(2), 0, 0, 2)
	wantFills(t, d.Image(4), 3, 0, 0)
	wantFills(t, d.Image(5), 3, 0, 0)
	wantFills(t, d.Image(3), 1, 0, 2)
	wantFills(t, d.Image(math.MaxUint64), 3, 0, 2)
	wantFills(t, d.Image(math.MaxUint64-7), 0, 0, 0)
	d.Sync()
	wantFills(t, d.Image(0), 3, 0, 2)
	d.Write(1, filled(4))
	wantFills(t, d.Image(0), 3, 0, 2)
	wantFills(t, d.Image(1), 3, 4, 2)
	wantFills(t, d.Image(2), 3, 0, 2)
}

func TestBitsGoRound(t *testing.T) {
	d := New(make([]byte, api.Sector))
	for n := range 66 {
		d.Write(0, filled(byte(n+1)))
	}
	wantFills(t, d.Image(1), 65)
	wantFills(t, d.Image(2), 66)
	wantFills(t, d.Image(4), 3)
	wantFills(t, d.Image(1<<63), 64)
}

func TestMemoryIsItsOwn(t *testing.T) {
	b := make([]byte, api.Sector, 2*api.Sector)
	d := New(b)
	b[0] = 9
	image := d.Image(0)
	image[1] = 9
	d.Write(0, filled(1))
	d.Sync()
	if b[5] != 0 || image[5] != 0 {
		t.Error("a write came to bytes of others")
	}
	wantFills(t, d.Image(0), 1)
	was := slices.Clone(b[:cap(b)])
	_ = append(d.Image(0), 7, 7, 7)
	if !bytes.Equal(b[:cap(b)], was) {
		t.Error("an image has another one's spare room")
	}
}

func wantWrite(t *testing.T, d *Disk, sector int, fill byte, want api.Errno) {
	t.Helper()
	if e := d.Write(sector, filled(fill)); e != want {
		t.Errorf("a write of %d = %d, want %d", fill, e, want)
	}
	if d.IsDead() != (want != api.OK) {
		t.Errorf("behind a write of %d: dead is %v", fill, d.IsDead())
	}
}

func TestFailsAtTheArmedWrite(t *testing.T) {
	for n := 1; n < 6; n++ {
		d := New(make([]byte, api.Sector))
		d.Arm(n)
		for fill := 1; fill < n; fill++ {
			wantWrite(t, d, 0, byte(fill), api.OK)
			d.Sync()
		}
		wantWrite(t, d, 0, 100, api.ErrCrash)
		wantFills(t, d.Image(math.MaxUint64), byte(n-1))
		for range 3 {
			wantWrite(t, d, 0, 101, api.ErrDead)
		}
		wantFills(t, d.Image(math.MaxUint64), byte(n-1))
	}
}

// The write at which a disk fails is lost; those before it that weren't synced are kept by their bits, and never synced any more.
func TestImageOfADeadDisk(t *testing.T) {
	d := New(make([]byte, 3*api.Sector))
	wantWrite(t, d, 0, 1, api.OK)
	d.Sync()
	d.Arm(3)
	wantWrite(t, d, 1, 2, api.OK)
	wantWrite(t, d, 0, 3, api.OK)
	wantWrite(t, d, 2, 4, api.ErrCrash)
	for range 2 {
		wantFills(t, d.Image(0), 1, 0, 0)
		wantFills(t, d.Image(1), 1, 2, 0)
		wantFills(t, d.Image(2), 3, 0, 0)
		wantFills(t, d.Image(4), 1, 0, 0)
		wantFills(t, d.Image(math.MaxUint64), 3, 2, 0)
		wantWrite(t, d, 2, 5, api.ErrDead)
		d.Sync()
		d.Arm(0)
	}
}

func TestArmTakesThePlaceOfAnother(t *testing.T) {
	d := New(make([]byte, api.Sector))
	for _, n := range []int{0, -1, math.MinInt} {
		d.Arm(1)
		d.Arm(n)
		for fill := range 10 {
			wantWrite(t, d, 0, byte(fill), api.OK)
		}
	}
	d.Arm(math.MaxInt)
	wantWrite(t, d, 0, 1, api.OK)
	d.Arm(2)
	wantWrite(t, d, 0, 2, api.OK)
	d.Arm(2)
	wantWrite(t, d, 0, 3, api.OK)
	wantWrite(t, d, 0, 4, api.ErrCrash)
	d.Arm(0)
	wantWrite(t, d, 0, 5, api.ErrDead)
	d.Arm(5)
	wantWrite(t, d, 0, 5, api.ErrDead)
}

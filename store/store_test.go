package store

import (
	"bytes"
	"math"
	"slices"
	"strings"
	"testing"

	"courier/api"
	"courier/disk"
)

const sectors = 6

// with lays sectors over a disk.
func with(bytes []byte, changes map[int]disk.Sector) []byte {
	b := slices.Clone(bytes)
	for at, s := range changes {
		copy(b[at*api.Sector:], s[:])
	}
	return b
}

func noughts() []byte { return make([]byte, sectors*api.Sector) }

func open(t *testing.T, bytes []byte) (*Store, Contents) {
	t.Helper()
	s, c, e := Open(bytes)
	if s == nil || e != api.OK {
		t.Fatalf("Open: %v, %d", s != nil, e)
	}
	return s, c
}

func wantRefused(t *testing.T, what string, bytes []byte) {
	t.Helper()
	if s, c, e := Open(bytes); s != nil || c.Records != nil || c.Numbers != (Numbers{}) || e != api.ErrDisk {
		t.Errorf("Open of %s: %v, %v, %d, want ErrDisk", what, s != nil, c, e)
	}
}

func wantContents(t *testing.T, bytes []byte, opening int, n Numbers, records ...Record) *Store {
	t.Helper()
	s, c := open(t, bytes)
	if s.Opening() != opening || c.Numbers != n || !slices.Equal(c.Records, records) {
		t.Errorf("Open: opening %d with %v, want %d with %v, %v", s.Opening(), c, opening, n, records)
	}
	return s
}

func TestWhatIsWrittenIsLasting(t *testing.T) {
	s := wantContents(t, noughts(), 1, Numbers{}, make([]Record, 4)...)
	a, b := Record{2, 7, strings.Repeat("\xff", 20)}, Record{0, api.MaxNumber, ""}
	s.WriteRecord(3, a)
	wantContents(t, s.Image(0), 2, Numbers{}, Record{}, Record{}, Record{}, a)
	for n := range 5 {
		numbers := Numbers{n, api.MaxNumber, 0}
		s.WriteNumbers(numbers)
		wantContents(t, s.Image(0), 2, numbers, Record{}, Record{}, Record{}, a)
	}
	s.WriteRecord(3, b)
	s.WriteRecord(0, a)
	s = wantContents(t, s.Image(0), 2, Numbers{4, api.MaxNumber, 0}, a, Record{}, Record{}, b)
	s = wantContents(t, s.Image(0), 3, Numbers{4, api.MaxNumber, 0}, a, Record{}, Record{}, b)
	s.WriteNumbers(Numbers{5})
	wantContents(t, s.Image(0), 4, Numbers{5}, a, Record{}, Record{}, b)
}

// An opening has its number on the disk before anything else is written.
func TestOpeningIsLasting(t *testing.T) {
	b := noughts()
	for opening := 1; opening < 20; opening++ {
		s, _ := open(t, b)
		b = s.Image(0)
		found := 0
		for at := range heads {
			if h, ok := readHead(sectorAt(b, at)); ok && h.stamp == (stamp{uint32(opening), 1}) {
				found++
			}
		}
		if found != 1 || s.Opening() != opening {
			t.Fatalf("opening %d: %d heads have its number", opening, found)
		}
	}
}

// The head that counts is never written over: without the last write the one before it counts.
func TestHeadsTakeTurns(t *testing.T) {
	s, _ := open(t, noughts())
	before := s.Image(0)
	for n := 1; n < 10; n++ {
		if n%4 == 0 {
			s, _ = open(t, before)
			before = s.Image(0)
		}
		s.WriteNumbers(Numbers{n})
		after := s.Image(0)
		changed := 0
		for at := range sectors {
			if sectorAt(before, at) != sectorAt(after, at) {
				changed++
				if h, at2, _ := newestHead(before); at == at2 || h.numbers != (Numbers{n - 1}) {
					t.Errorf("write %d is over the head that counts", n)
				}
			}
		}
		if changed != 1 {
			t.Errorf("write %d changed %d sectors", n, changed)
		}
		before = after
	}
}

// No two writes have one stamp, over several openings.
func TestStampsAreNeverUsedAgain(t *testing.T) {
	seen := map[stamp]disk.Sector{}
	look := func(b []byte) {
		for at := range sectors {
			sector := sectorAt(b, at)
			if old, ok := seen[stampOf(sector)]; ok && old != sector {
				t.Fatalf("two writes have the stamp %v", stampOf(sector))
			}
			seen[stampOf(sector)] = sector
		}
	}
	b := noughts()
	for opening := range 5 {
		s, _ := open(t, b)
		look(s.Image(0))
		for n := range 10 {
			if n%3 == 0 {
				s.WriteNumbers(Numbers{opening, n})
			} else {
				s.WriteRecord(n%4, Record{1, opening*10 + n, "x"})
			}
			look(s.Image(0))
		}
		b = s.Image(0)
	}
	if len(seen) != 1+5*11 {
		t.Errorf("%d stamps for 55 writes and the noughts", len(seen))
	}
}

func TestNewerHead(t *testing.T) {
	old, young := Numbers{1, 1, 1}, Numbers{2, 2, 2}
	for _, c := range [][2]stamp{{{1, 1}, {2, 1}}, {{1, 9}, {2, 1}}, {{3, 4}, {3, 5}}, {{3, math.MaxUint32}, {3, math.MaxUint32 + 1}}, {{mostOpenings - 1, 1}, {mostOpenings, 0}}} {
		for at := range heads {
			b := with(noughts(), map[int]disk.Sector{at: sealHead(head{c[0], old}), 1 - at: sealHead(head{c[1], young})})
			wantContents(t, b, int(c[1].opening)+1, young, make([]Record, 4)...)
		}
	}
	for at := range heads {
		b := with(noughts(), map[int]disk.Sector{at: sealHead(head{stamp{5, 6}, old})})
		wantContents(t, b, 6, old, make([]Record, 4)...)
	}
}

func TestHeadsThatWereNeverWritten(t *testing.T) {
	fine := head{stamp{4, 2}, Numbers{1, 2, 3}}
	for what, h := range map[string]head{
		"of opening 0":       {stamp{0, 1}, Numbers{}},
		"of opening 2^30+1":  {stamp{mostOpenings + 1, 1}, Numbers{}},
		"of opening 2^32-1":  {stamp{math.MaxUint32, 1}, Numbers{}},
		"with number 2^31":   {stamp{1, 1}, Numbers{1 << 31, 0, 0}},
		"with number 2^32-1": {stamp{1, 1}, Numbers{0, math.MaxUint32, 0}},
	} {
		for at := range heads {
			wantRefused(t, "a head "+what, with(noughts(), map[int]disk.Sector{at: sealHead(h)}))
			wantRefused(t, "a second head "+what, with(noughts(), map[int]disk.Sector{at: sealHead(h), 1 - at: sealHead(fine)}))
		}
	}
	wantRefused(t, "two heads of one stamp", with(noughts(), map[int]disk.Sector{0: sealHead(fine), 1: sealHead(fine)}))
	wantRefused(t, "two heads of one stamp", with(noughts(), map[int]disk.Sector{0: sealHead(fine), 1: sealHead(head{fine.stamp, Numbers{}})}))
}

func TestRecordsThatWereNeverWritten(t *testing.T) {
	h := head{stamp{4, 2}, Numbers{}}
	fine := with(noughts(), map[int]disk.Sector{1: sealHead(h), 3: sealRecord(stamp{4, 9}, Record{1, 1, "a"})})
	wantContents(t, fine, 5, Numbers{}, Record{}, Record{1, 1, "a"}, Record{}, Record{})
	for what, s := range map[string]disk.Sector{
		"of stream 3":        sealRecord(stamp{1, 2}, Record{3, 1, "a"}),
		"of stream 255":      sealRecord(stamp{1, 2}, Record{255, 1, "a"}),
		"of number 0":        sealRecord(stamp{1, 2}, Record{1, 0, "a"}),
		"of number 2^31":     sealRecord(stamp{1, 2}, Record{1, api.MaxNumber + 1, "a"}),
		"of number 2^32-1":   sealRecord(stamp{1, 2}, Record{1, math.MaxUint32, "a"}),
		"of 21 bytes":        sealRecord(stamp{1, 2}, Record{1, 1, strings.Repeat("x", 21)}),
		"of 255 bytes":       sealRecord(stamp{1, 2}, Record{1, 1, strings.Repeat("x", 255)}),
		"of opening 0":       sealRecord(stamp{0, 2}, Record{1, 1, "a"}),
		"of a later opening": sealRecord(stamp{5, 2}, Record{1, 1, "a"}),
		"of a far opening":   sealRecord(stamp{math.MaxUint32, 2}, Record{1, 1, "a"}),
		"with more inside":   seal(stamp{1, 2}, append([]byte{1, 1, 1, 0, 0, 0, 'a'}, "b"...)),
		"that is a head":     sealHead(h),
	} {
		for at := heads; at < sectors; at++ {
			wantRefused(t, "a record "+what, with(fine, map[int]disk.Sector{at: s}))
		}
	}
	wantRefused(t, "records without a head", with(noughts(), map[int]disk.Sector{4: sealRecord(stamp{1, 2}, Record{1, 1, "a"})}))
}

// A sector that is half of one write and half of another is told, and so is one half of noughts.
func TestSectorsThatAreNotWhole(t *testing.T) {
	s, _ := open(t, noughts())
	for n := range 8 {
		s.WriteRecord(n%4, Record{1, n + 1, "x"})
	}
	older := s.Image(0)
	for n := range 8 {
		s.WriteRecord(n%4, Record{1, n + 9, "y"})
		s.WriteNumbers(Numbers{n + 1})
	}
	newer := s.Image(0)
	for _, c := range [][2][]byte{{older, newer}, {newer, older}, {newer, noughts()}, {noughts(), newer}} {
		for at := range sectors {
			if bytes.Equal(c[1], noughts()) && at < heads {
				continue
			}
			for cut := 12; cut <= api.Sector-12; cut++ {
				b := slices.Clone(newer)
				copy(b[at*api.Sector:], c[0][at*api.Sector:][:cut])
				copy(b[at*api.Sector+cut:(at+1)*api.Sector], c[1][at*api.Sector+cut:])
				wantRefused(t, "a sector that isn't whole", b)
			}
		}
	}
}

func TestImagesAreNew(t *testing.T) {
	b := noughts()
	s, c := open(t, b)
	first, second := s.Image(0), s.Image(0)
	clear(first)
	if !bytes.Equal(b, noughts()) || bytes.Equal(second, first) {
		t.Error("the disk shares its bytes")
	}
	c.Records[0] = Record{1, 1, "a"}
	wantContents(t, s.Image(0), 2, Numbers{}, make([]Record, 4)...)
}

// A write at which the disk fails leaves all as it was, and no later one is made.
func TestAWriteThatFails(t *testing.T) {
	a, b := Record{1, 1, "a"}, Record{2, 5, "b"}
	writes := map[string]func(*Store) api.Errno{
		"numbers":                   func(s *Store) api.Errno { return s.WriteNumbers(Numbers{7, 8, 9}) },
		"a record":                  func(s *Store) api.Errno { return s.WriteRecord(1, b) },
		"a record over another one": func(s *Store) api.Errno { return s.WriteRecord(2, b) },
	}
	for name, write := range writes {
		s, _ := open(t, noughts())
		if s.WriteRecord(2, a) != api.OK || s.WriteNumbers(Numbers{1, 2, 3}) != api.OK || s.IsDead() {
			t.Fatal("a disk fails that isn't armed")
		}
		before := s.Image(0)
		s.Arm(1)
		if e := write(s); e != api.ErrCrash || !s.IsDead() {
			t.Errorf("writing %s = %d, want ErrCrash", name, e)
		}
		for again, w := range writes {
			if e := w(s); e != api.ErrDead {
				t.Errorf("writing %s to a dead disk = %d, want ErrDead", again, e)
			}
		}
		if !bytes.Equal(s.Image(0), before) || !bytes.Equal(s.Image(math.MaxUint64), before) {
			t.Errorf("a write of %s that failed has come to the disk", name)
		}
		wantContents(t, s.Image(0), 2, Numbers{1, 2, 3}, Record{}, Record{}, a, Record{})
	}
}

// Each write is lasting when it is made, so nothing hangs on what is kept.
func TestTheArmedWriteIsCounted(t *testing.T) {
	s, _ := open(t, noughts())
	s.Arm(4)
	for n := 1; n < 4; n++ {
		if e := s.WriteRecord(n, Record{0, n, "r"}); e != api.OK {
			t.Fatalf("write %d = %d", n, e)
		}
		if !bytes.Equal(s.Image(0), s.Image(math.MaxUint64)) {
			t.Errorf("write %d isn't lasting", n)
		}
	}
	if e := s.WriteNumbers(Numbers{3}); e != api.ErrCrash {
		t.Errorf("the fourth write = %d, want ErrCrash", e)
	}
	wantContents(t, s.Image(math.MaxUint64), 2, Numbers{}, Record{}, Record{0, 1, "r"}, Record{0, 2, "r"}, Record{0, 3, "r"})
}

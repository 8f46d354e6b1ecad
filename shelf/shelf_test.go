package shelf

import (
	"maps"
	"math"
	"math/rand"
	"slices"
	"testing"
)

type seq uint32

func numbersOf[N Number, T any](s *Shelf[N, T], most int) []N {
	var numbers []N
	for n := range s.First(most) {
		numbers = append(numbers, n)
	}
	return numbers
}

func TestEmpty(t *testing.T) {
	var s Shelf[int, string]
	s.Clear()
	if _, found := s.Get(0); found {
		t.Error("an empty shelf has a thing")
	}
	if n, found := s.Last(); n != 0 || found {
		t.Errorf("the last of an empty shelf: %d, %v", n, found)
	}
	if thing, found := s.Take(0); thing != "" || found || s.Has(0) {
		t.Errorf("taken from an empty shelf: %q, %v", thing, found)
	}
	if taken := s.TakeUpTo(math.MaxInt); len(taken) != 0 {
		t.Errorf("taken from an empty shelf: %q", taken)
	}
	if s.Len() != 0 || len(numbersOf(&s, 3)) != 0 {
		t.Error("an empty shelf goes on")
	}
}

func TestOrderWithGaps(t *testing.T) {
	var s Shelf[seq, string]
	for _, n := range []seq{7, 2, math.MaxUint32, 0, 9, 3} {
		s.Put(n, "old")
		s.Put(n, string([]byte{'a' + byte(n%26)}))
	}
	want := []seq{0, 2, 3, 7, 9, math.MaxUint32}
	for most := range 9 {
		if got := numbersOf(&s, most); !slices.Equal(got, want[:min(most, 6)]) {
			t.Errorf("the first %d: %d", most, got)
		}
	}
	if last, found := s.Last(); last != math.MaxUint32 || !found || s.Len() != 6 {
		t.Errorf("Last, Len: %d, %v, %d", last, found, s.Len())
	}
	if thing, found := s.Get(3); thing != "d" || !found {
		t.Errorf("Get(3) = %q, %v", thing, found)
	}
	if thing, found := s.Get(4); thing != "" || found {
		t.Errorf("Get(4) = %q, %v", thing, found)
	}
	if got := s.TakeUpTo(6); !slices.Equal(got, []string{"a", "c", "d"}) {
		t.Errorf("TakeUpTo(6) = %q", got)
	}
	if got := s.TakeUpTo(7); !slices.Equal(got, []string{"h"}) {
		t.Errorf("TakeUpTo(7) = %q", got)
	}
	if _, found := s.Get(3); found || s.Len() != 2 || len(s.things) != 2 {
		t.Error("what was taken is still there")
	}
	s.Put(3, "again")
	if got := numbersOf(&s, 9); !slices.Equal(got, []seq{3, 9, math.MaxUint32}) {
		t.Errorf("put again: %d", got)
	}
	s.Clear()
	if len(numbersOf(&s, 9)) != 0 || len(s.things) != 0 {
		t.Error("a cleared shelf isn't empty")
	}
}

func TestStopEarly(t *testing.T) {
	var s Shelf[int32, int]
	for n := range int32(5) {
		s.Put(n, int(n))
	}
	for n, thing := range s.All() {
		if n == 2 {
			break
		}
		if int(n) != thing {
			t.Errorf("%d lies at %d", thing, n)
		}
	}
}

// Beside a plain map, whose keys are sorted anew each time.
func TestLikeAMap(t *testing.T) {
	r := rand.New(rand.NewSource(5))
	var s Shelf[int, int]
	m := map[int]int{}
	for range 5000 {
		n, thing := r.Intn(60)-20, r.Int()
		was, there := m[n]
		if has := s.Has(n); has != there {
			t.Fatalf("Has(%d) = %v", n, has)
		}
		switch k := r.Intn(20); {
		case k < 10:
			s.Put(n, thing)
			m[n] = thing
		case k < 14:
			if got, found := s.Take(n); got != was || found != there {
				t.Fatalf("Take(%d) = %d, %v, want %d, %v", n, got, found, was, there)
			}
			delete(m, n)
		case k < 19:
			want := []int{}
			for _, key := range slices.Sorted(maps.Keys(m)) {
				if key <= n-25 {
					want = append(want, m[key])
					delete(m, key)
				}
			}
			if got := s.TakeUpTo(n - 25); !slices.Equal(got, want) {
				t.Fatalf("TakeUpTo(%d) = %d, want %d", n-25, got, want)
			}
		case r.Intn(10) == 0:
			s.Clear()
			clear(m)
		}
		if got := maps.Collect(s.All()); !maps.Equal(got, m) || s.Len() != len(m) {
			t.Fatalf("the shelf has %d, want %d", got, m)
		}
		if got := numbersOf(&s, s.Len()); !slices.Equal(got, slices.Sorted(maps.Keys(m))) {
			t.Fatalf("not in order: %d", got)
		}
	}
}

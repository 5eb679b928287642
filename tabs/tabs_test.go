package tabs_test

import (
	"math"
	"math/rand"
	"slices"
	"testing"

	"tickertape/api"
	"tickertape/tabs"
)

func made(t *testing.T, cols int) *tabs.Stops {
	t.Helper()
	s, e := tabs.New(cols)
	if s == nil || e != api.OK {
		t.Fatalf("P10.1: New(%d): %d", cols, e)
	}
	return s
}

func TestNew(t *testing.T) {
	for _, cols := range []int{0, -1, math.MinInt, api.MaxCols + 1, math.MaxInt} {
		if s, e := tabs.New(cols); s != nil || e != api.ErrRange {
			t.Errorf("P10.1: New(%d): %d", cols, e)
		}
	}
	for cols, want := range map[int][]int{1: nil, 8: nil, 9: {8}, 16: {8}, 17: {8, 16}, 20: {8, 16}} {
		if got := made(t, cols).List(); !slices.Equal(got, want) {
			t.Errorf("P10.1: New(%d) has %v", cols, got)
		}
	}
	if l := made(t, api.MaxCols).List(); len(l) != 24 || l[23] != 192 {
		t.Errorf("P10.1: %v", l)
	}
}

func TestSetAndClear(t *testing.T) {
	s := made(t, 20)
	for _, col := range []int{-1, 20, math.MinInt, math.MaxInt} {
		if s.Set(col) || s.Clear(col) {
			t.Errorf("P10.1: column %d", col)
		}
	}
	if !s.Set(0) || !s.Set(19) || !s.Set(3) || !s.Set(8) || !s.Clear(16) || !s.Clear(4) || !slices.Equal(s.List(), []int{0, 3, 8, 19}) {
		t.Errorf("P10.1: %v", s.List())
	}
	if s.ClearAll(); len(s.List()) != 0 {
		t.Errorf("P10.1: ClearAll leaves %v", s.List())
	}
}

func TestResize(t *testing.T) {
	s := made(t, 20)
	s.Set(3)
	s.Set(18)
	for _, cols := range []int{0, -1, api.MaxCols + 1} {
		if s.Resize(cols) != api.ErrRange || !slices.Equal(s.List(), []int{3, 8, 16, 18}) {
			t.Errorf("P10.1: Resize(%d)", cols)
		}
	}
	for _, c := range []struct {
		cols int
		want []int
	}{{33, []int{3, 8, 16, 18, 24, 32}}, {9, []int{3, 8}}, {25, []int{3, 8, 16, 24}}, {8, []int{3}}, {1, nil}, {17, []int{8, 16}}} {
		if e := s.Resize(c.cols); e != api.OK || !slices.Equal(s.List(), c.want) {
			t.Errorf("P10.1: Resize(%d): %d, %v", c.cols, e, s.List())
		}
	}
	s.ClearAll()
	if s.Resize(30); !slices.Equal(s.List(), []int{24}) {
		t.Errorf("P10.1: new columns behind ClearAll: %v", s.List())
	}
}

func TestNextAndPrev(t *testing.T) {
	s := made(t, 30)
	s.Set(10)
	for _, c := range []struct{ col, n, next, prev int }{
		{0, 1, 8, 0}, {8, 1, 10, 0}, {9, 1, 10, 8}, {0, 2, 10, 0}, {0, 4, 24, 0}, {0, 5, 29, 0}, {24, 1, 29, 16}, {29, 1, 29, 24}, {29, 2, 29, 16}, {29, 4, 29, 8}, {29, 5, 29, 0}, {25, 3, 29, 10},
		{0, 0, 8, 0}, {11, -1, 16, 10}, {11, math.MinInt, 16, 10}, {11, math.MaxInt, 29, 0}, {-5, 1, 8, 0}, {math.MinInt, 2, 10, 0}, {30, 1, 29, 24}, {math.MaxInt, 2, 29, 16},
	} {
		if next, prev := s.Next(c.col, c.n), s.Prev(c.col, c.n); next != c.next || prev != c.prev {
			t.Errorf("P10.2: %v: Next %d, Prev %d", c, next, prev)
		}
	}
	if s := made(t, 20); s.Next(0, 1) != 8 || s.Next(16, 1) != 19 {
		t.Error("P10.2: the example")
	}
	if s := made(t, 1); s.Next(0, 1) != 0 || s.Prev(0, 1) != 0 {
		t.Error("P10.2: one column")
	}
}

func TestBothAreStopsOrEnds(t *testing.T) {
	r := rand.New(rand.NewSource(1))
	for range 500 {
		cols := 1 + r.Intn(60)
		s := made(t, cols)
		for range r.Intn(20) {
			s.Set(r.Intn(cols))
			s.Clear(r.Intn(cols))
		}
		l := s.List()
		for col := range cols {
			next, prev := s.Next(col, 1), s.Prev(col, 1)
			if next < col || next != cols-1 && (next == col || !slices.Contains(l, next)) || prev > col || prev != 0 && (prev == col || !slices.Contains(l, prev)) {
				t.Fatalf("P10.4: %v, column %d: Next %d, Prev %d", l, col, next, prev)
			}
			if s.Next(next, 1) != s.Next(col, 2) || s.Prev(prev, 1) != s.Prev(col, 2) {
				t.Fatalf("P10.2: %v, column %d: twice one is not two", l, col)
			}
		}
	}
}

func TestNothingIsShared(t *testing.T) {
	s := made(t, 20)
	l := s.List()
	l[0] = 3
	if !slices.Equal(s.List(), []int{8, 16}) {
		t.Error("P10.3: List hands out its own memory")
	}
}

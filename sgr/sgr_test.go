package sgr_test

import (
	"math"
	"math/rand"
	"slices"
	"testing"

	"tickertape/cell"
	"tickertape/sgr"
)

const rgb = cell.True + 1<<16 + 2<<8 + 3

var full = cell.Attr{Flags: 255, Fg: 5, Bg: rgb}

func TestApply(t *testing.T) {
	for _, c := range []struct {
		from   cell.Attr
		params []int
		want   cell.Attr
	}{
		{full, nil, cell.Attr{}}, {full, []int{0}, cell.Attr{}}, {full, []int{-1}, cell.Attr{}}, {cell.Attr{}, []int{1, 31}, cell.Attr{Flags: 1, Fg: 2}}, {full, []int{1, 0, 4}, cell.Attr{Flags: 8}},
		{cell.Attr{}, []int{1, 2, 3, 4, 5, 7, 8, 9}, cell.Attr{Flags: 255}}, {full, []int{22, 23, 24, 25, 27, 28, 29}, cell.Attr{Fg: 5, Bg: rgb}},
		{cell.Attr{}, []int{30, 40}, cell.Attr{Fg: 1, Bg: 1}}, {cell.Attr{}, []int{37, 47}, cell.Attr{Fg: 8, Bg: 8}}, {cell.Attr{}, []int{90, 100}, cell.Attr{Fg: 9, Bg: 9}}, {cell.Attr{}, []int{97, 107}, cell.Attr{Fg: 16, Bg: 16}},
		{full, []int{39}, cell.Attr{Flags: 255, Bg: rgb}}, {full, []int{49}, cell.Attr{Flags: 255, Fg: 5}},
		{cell.Attr{}, []int{38, 5, 0, 48, 5, 255}, cell.Attr{Fg: 1, Bg: 256}}, {cell.Attr{}, []int{38, 2, 1, 2, 3, 1}, cell.Attr{Flags: 1, Fg: rgb}}, {cell.Attr{}, []int{48, 2, 255, 255, 255}, cell.Attr{Bg: 2*cell.True - 1}},
		{cell.Attr{}, []int{38, 2, -1, -1, -1, 4}, cell.Attr{Flags: 8, Fg: cell.True}}, {cell.Attr{}, []int{38, 5, -1, 4}, cell.Attr{Flags: 8, Fg: 1}},
		{full, []int{38}, full}, {full, []int{38, 5}, full}, {full, []int{48, 2, 1, 2}, full}, {full, []int{38, 1, 0}, full}, {full, []int{38, 3, 0, 0}, full}, {full, []int{48, -1, 0}, full}, {full, []int{38, 0, 0}, full}, {full, []int{38, 38, 5, 1}, full},
		{full, []int{38, 5, 256, 22}, cell.Attr{Flags: 252, Fg: 5, Bg: rgb}}, {full, []int{38, 5, -2, 22}, cell.Attr{Flags: 252, Fg: 5, Bg: rgb}}, {full, []int{48, 2, 1, 256, 3, 22}, cell.Attr{Flags: 252, Fg: 5, Bg: rgb}}, {full, []int{48, 2, 1, 2, math.MinInt, 0}, cell.Attr{}}, {full, []int{48, 2, math.MaxInt, 2, 1, 39}, cell.Attr{Flags: 255, Bg: rgb}},
		{full, []int{6, 10, 98, 21, 26, 29 + 9*3, 58, 99, 108, 89, 50, -2, math.MaxInt, math.MinInt}, full},
	} {
		if got := sgr.Apply(c.from, c.params...); got != c.want {
			t.Errorf("P9.1: Apply(%v, %v) is %v, want %v", c.from, c.params, got, c.want)
		}
	}
}

func TestEachFlag(t *testing.T) {
	for n, flag := range map[int]int{1: 1, 2: 2, 3: 4, 4: 8, 5: 16, 7: 32, 8: 64, 9: 128} {
		if got := sgr.Apply(cell.Attr{Fg: 3}, n); got != (cell.Attr{Flags: flag, Fg: 3}) {
			t.Errorf("P9.1: %d: %v", n, got)
		}
		if got := sgr.Params(cell.Attr{Flags: flag}); !slices.Equal(got, []int{0, n}) {
			t.Errorf("P9.2: flag %d: %v", flag, got)
		}
	}
	for n, flags := range map[int]int{22: 3, 23: 4, 24: 8, 25: 16, 27: 32, 28: 64, 29: 128} {
		if got := sgr.Apply(full, n); got != (cell.Attr{Flags: 255 - flags, Fg: 5, Bg: rgb}) {
			t.Errorf("P9.1: %d: %v", n, got)
		}
	}
}

func TestParams(t *testing.T) {
	for _, c := range []struct {
		a    cell.Attr
		want []int
	}{
		{cell.Attr{}, []int{0}}, {cell.Attr{Flags: 255}, []int{0, 1, 2, 3, 4, 5, 7, 8, 9}}, {cell.Attr{Fg: 1}, []int{0, 38, 5, 0}}, {cell.Attr{Fg: 256, Bg: 9}, []int{0, 38, 5, 255, 48, 5, 8}},
		{cell.Attr{Flags: 1, Fg: rgb, Bg: cell.True}, []int{0, 1, 38, 2, 1, 2, 3, 48, 2, 0, 0, 0}}, {cell.Attr{Bg: 2*cell.True - 1}, []int{0, 48, 2, 255, 255, 255}},
		{cell.Attr{Flags: 256}, []int{0}}, {cell.Attr{Flags: -1, Fg: 3}, []int{0}}, {cell.Attr{Flags: 1, Fg: 257}, []int{0}}, {cell.Attr{Flags: 1, Bg: 2 * cell.True}, []int{0}}, {cell.Attr{Fg: 3, Bg: -1}, []int{0}},
	} {
		if got := sgr.Params(c.a); !slices.Equal(got, c.want) {
			t.Errorf("P9.2: Params(%v) is %v", c.a, got)
		}
	}
}

func TestApplyOfParams(t *testing.T) {
	r := rand.New(rand.NewSource(1))
	colour := func() int {
		return []int{0, 1 + r.Intn(256), cell.True + r.Intn(cell.True)}[r.Intn(3)]
	}
	for range 3000 {
		a := cell.Attr{Flags: r.Intn(256), Fg: colour(), Bg: colour()}
		b := cell.Attr{Flags: r.Intn(256), Fg: colour(), Bg: colour()}
		if got := sgr.Apply(b, sgr.Params(a)...); got != a {
			t.Fatalf("P9.4: %v comes back as %v", a, got)
		}
		l := make([]int, r.Intn(10))
		for i := range l {
			l[i] = []int{r.Intn(110), 38, 48, 5, 2, -1, r.Intn(300)}[r.Intn(7)]
		}
		in := slices.Clone(l)
		if got := sgr.Apply(a, l...); !cell.MayAttr(got) || !slices.Equal(in, l) {
			t.Fatalf("P9.1, P9.3: Apply(%v, %v) is %v", a, in, got)
		}
	}
}

func TestNothingIsShared(t *testing.T) {
	first := sgr.Params(full)
	want := slices.Clone(first)
	_ = append(first[:0], 9, 9, 9)
	if !slices.Equal(sgr.Params(full), want) {
		t.Error("P9.3: Params hands out the same memory twice")
	}
}

package cell_test

import (
	"math"
	"testing"

	"tickertape/cell"
)

// spans has each stretch of signs and its width, beginning behind the one ahead.
var spans = []struct {
	last  rune
	width int
}{
	{-1, 0}, {31, 0}, {126, 1}, {159, 0}, {767, 1}, {879, 0}, {0x10FF, 1}, {0x115F, 2}, {0x2E7F, 1}, {0xA4CF, 2}, {0xABFF, 1}, {0xD7A3, 2}, {0xD7FF, 1}, {0xDFFF, 0},
	{0xF8FF, 1}, {0xFAFF, 2}, {0xFE2F, 1}, {0xFE6F, 2}, {0xFEFF, 1}, {0xFF60, 2}, {0xFFDF, 1}, {0xFFE6, 2}, {0x1F2FF, 1}, {0x1F64F, 2}, {0x1F8FF, 1}, {0x1F9FF, 2},
	{0x1FFFF, 1}, {0x3FFFD, 2}, {0x10FFFF, 1}, {math.MaxInt32, 0},
}

func TestWidth(t *testing.T) {
	first := rune(math.MinInt32)
	for _, s := range spans {
		for _, r := range []rune{first, first + (s.last-first)/2, s.last} {
			if got := cell.Width(r); got != s.width {
				t.Errorf("P6.1: Width(%X) is %d, want %d", r, got, s.width)
			}
		}
		first = s.last + 1
	}
}

func TestBlank(t *testing.T) {
	for _, a := range []cell.Attr{{}, {Flags: 255, Fg: 3, Bg: 7}, {Bg: cell.True}, {Flags: 1, Fg: cell.True, Bg: 2*cell.True - 1}} {
		want := cell.Cell{Rune: ' ', Attr: cell.Attr{Bg: a.Bg}}
		if got := cell.Blank(a); got != want || !cell.May(got) {
			t.Errorf("P6.2, P6.3: Blank(%v) is %v", a, got)
		}
	}
	if got := cell.Blank(cell.Attr{Bg: -5}); got.Bg != -5 || cell.May(got) {
		t.Errorf("P6.2: Blank of what may not be is %v", got)
	}
}

func TestMayAttr(t *testing.T) {
	if cell.Flags != 255 || cell.True != 16777216 {
		t.Error("P6.2: the constants")
	}
	for _, n := range []int{0, 1, 255, 256, 1 << 24, 1<<24 + 1, 1<<25 - 1} {
		if !cell.MayAttr(cell.Attr{Fg: n}) || !cell.MayAttr(cell.Attr{Bg: n}) {
			t.Errorf("P6.2: colour %d", n)
		}
	}
	for _, n := range []int{-1, 257, 1<<24 - 1, 1 << 25, math.MinInt, math.MaxInt} {
		if cell.MayAttr(cell.Attr{Fg: n}) || cell.MayAttr(cell.Attr{Bg: n}) || cell.May(cell.Cell{Rune: 'a', Attr: cell.Attr{Fg: n}}) || cell.May(cell.Cell{Wide: 2, Attr: cell.Attr{Bg: n}}) {
			t.Errorf("P6.2: colour %d", n)
		}
	}
	for _, n := range []int{0, 1, 128, 255} {
		if !cell.MayAttr(cell.Attr{Flags: n}) {
			t.Errorf("P6.2: flags %d", n)
		}
	}
	for _, n := range []int{-1, 256, math.MinInt, math.MaxInt} {
		if cell.MayAttr(cell.Attr{Flags: n}) || cell.May(cell.Cell{Rune: 'a', Attr: cell.Attr{Flags: n}}) {
			t.Errorf("P6.2: flags %d", n)
		}
	}
}

func TestMay(t *testing.T) {
	for _, c := range []struct {
		r    rune
		wide int
		want bool
	}{
		{'a', 0, true}, {' ', 0, true}, {0xFFFD, 0, true}, {0x4E00, 1, true}, {0, 2, true},
		{0, 0, false}, {7, 0, false}, {0x300, 0, false}, {-1, 0, false}, {0xD800, 0, false}, {0x110000, 0, false}, {0x4E00, 0, false}, {'a', 1, false}, {0, 1, false},
		{'a', 2, false}, {0x4E00, 2, false}, {'a', 3, false}, {'a', -1, false}, {0, 3, false}, {0x4E00, math.MaxInt, false}, {'a', math.MinInt, false},
	} {
		if got := cell.May(cell.Cell{Rune: c.r, Wide: c.wide}); got != c.want {
			t.Errorf("P6.2: May of %X, Wide %d is %v", c.r, c.wide, got)
		}
	}
}

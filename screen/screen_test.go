package screen_test

import (
	"math"
	"slices"
	"strings"
	"testing"

	"tickertape/api"
	"tickertape/cell"
	"tickertape/screen"
)

var (
	left  = cell.Cell{Rune: 0x4E00, Wide: 1}
	right = cell.Cell{Wide: 2}
	a     = cell.Cell{Rune: 'a'}
	space = cell.Cell{Rune: ' '}
)

// some is a screen of two rows: a wide sign and a, then a and two spaces.
func some() screen.Screen {
	return screen.Screen{Rows: 2, Cols: 3, Cells: []cell.Cell{left, right, a, a, space, space}, Row: 1, Col: 2, Hidden: true, Title: "t"}
}

func TestBlank(t *testing.T) {
	for _, c := range [][2]int{{0, 1}, {1, 0}, {-1, 1}, {1, -1}, {61, 1}, {1, 201}, {math.MaxInt, math.MaxInt}, {math.MinInt, math.MinInt}} {
		if s, e := screen.Blank(c[0], c[1]); e != api.ErrRange || !screen.Same(s, screen.Screen{}) {
			t.Errorf("P11.1: Blank(%v): %d", c, e)
		}
	}
	for _, c := range [][2]int{{1, 1}, {60, 200}, {1, 3}} {
		s, e := screen.Blank(c[0], c[1])
		if e != api.OK || s.Rows != c[0] || s.Cols != c[1] || len(s.Cells) != c[0]*c[1] || s.Row != 0 || s.Col != 0 || s.Hidden || s.Title != "" {
			t.Errorf("P11.1: Blank(%v): %d", c, e)
		}
		for _, x := range s.Cells {
			if x != space {
				t.Fatalf("P11.1: Blank has %v", x)
			}
		}
		if l := screen.Text(s); !screen.May(s) || len(l) != c[0] || strings.Join(l, "") != "" {
			t.Errorf("P11.4: Blank(%v): %q", c, l)
		}
	}
}

func TestMended(t *testing.T) {
	for i, c := range []struct {
		rows, cols int
		l          []cell.Cell
		want       bool
	}{
		{1, 1, []cell.Cell{a}, true}, {1, 3, []cell.Cell{left, right, a}, true}, {2, 2, []cell.Cell{left, right, left, right}, true}, {1, 4, []cell.Cell{left, right, left, right}, true}, {2, 3, some().Cells, true},
		{4, 1, []cell.Cell{left, right, left, right}, false}, {2, 2, []cell.Cell{a, left, right, a}, false}, {1, 2, []cell.Cell{left, a}, false}, {1, 2, []cell.Cell{a, right}, false}, {1, 1, []cell.Cell{left}, false}, {1, 1, []cell.Cell{right}, false},
		{1, 3, []cell.Cell{left, left, right}, false}, {1, 3, []cell.Cell{left, right, right}, false}, {1, 2, []cell.Cell{right, left}, false}, {1, 1, []cell.Cell{{}}, false}, {1, 1, []cell.Cell{{Rune: 'a', Attr: cell.Attr{Fg: -1}}}, false},
		{1, 2, []cell.Cell{a}, false}, {1, 1, []cell.Cell{a, a}, false}, {2, 1, []cell.Cell{a}, false}, {1, 1, nil, false}, {3, 2, []cell.Cell{a, a, a, a}, false}, {2, 3, []cell.Cell{a, a, a, a, a}, false},
		{1, 0, []cell.Cell{a}, false}, {0, 1, []cell.Cell{a}, false}, {-1, -1, []cell.Cell{a}, false}, {1 << 32, 1 << 32, nil, false}, {math.MaxInt, math.MaxInt, []cell.Cell{a}, false}, {math.MinInt, 2, nil, false}, {1 << 62, 4, nil, false},
	} {
		if screen.Mended(c.rows, c.cols, c.l) != c.want {
			t.Errorf("P11.1: Mended, case %d", i)
		}
	}
}

func TestMay(t *testing.T) {
	if !screen.May(some()) || screen.May(screen.Screen{}) {
		t.Error("P11.1: May")
	}
	long := strings.Repeat("\u4E00", api.MaxTitle)
	for i, good := range []func(s *screen.Screen){
		func(s *screen.Screen) { s.Row, s.Col = 0, 0 }, func(s *screen.Screen) { s.Title = "" }, func(s *screen.Screen) { s.Title = long }, func(s *screen.Screen) { s.Title = " ~\u00A0\uFFFD\U0010FFFF" }, func(s *screen.Screen) { s.Hidden = false },
	} {
		s := some()
		if good(&s); !screen.May(s) {
			t.Errorf("P11.1: good change %d", i)
		}
	}
	for i, bad := range []func(s *screen.Screen){
		func(s *screen.Screen) { s.Row = 2 }, func(s *screen.Screen) { s.Row = -1 }, func(s *screen.Screen) { s.Col = 3 }, func(s *screen.Screen) { s.Col = -1 }, func(s *screen.Screen) { s.Col = math.MinInt }, func(s *screen.Screen) { s.Rows = 3 }, func(s *screen.Screen) { s.Rows, s.Cols = 3, 2 },
		func(s *screen.Screen) { s.Cells = s.Cells[:5] }, func(s *screen.Screen) { s.Cells[3] = right }, func(s *screen.Screen) { s.Cells[5] = cell.Cell{} }, func(s *screen.Screen) { s.Title = long + "x" }, func(s *screen.Screen) { s.Title = "a\x1F" }, func(s *screen.Screen) { s.Title = "\x7F" },
		func(s *screen.Screen) { s.Title = "\u0080" }, func(s *screen.Screen) { s.Title = "\u009F" }, func(s *screen.Screen) { s.Title = "a\xFF" }, func(s *screen.Screen) { s.Title = "\xED\xA0\x80" }, func(s *screen.Screen) { s.Title = "\xEF\xBF" }, func(s *screen.Screen) { s.Title = "\xC0\x80" },
		func(s *screen.Screen) { s.Rows, s.Cols, s.Cells = 0, 0, nil }, func(s *screen.Screen) { s.Rows, s.Cells = 61, make([]cell.Cell, 183) }, func(s *screen.Screen) {
			s.Rows, s.Cols, s.Row, s.Col, s.Cells = 61, 1, 0, 0, slices.Repeat([]cell.Cell{a}, 61)
		},
		func(s *screen.Screen) {
			s.Rows, s.Cols, s.Row, s.Col, s.Cells = 1, 201, 0, 0, slices.Repeat([]cell.Cell{a}, 201)
		},
	} {
		s := some()
		if bad(&s); screen.May(s) || screen.Text(s) != nil {
			t.Errorf("P11.1, P11.2: bad change %d", i)
		}
	}
}

func TestSame(t *testing.T) {
	if !screen.Same(some(), some()) || !screen.Same(screen.Screen{Cells: []cell.Cell{}}, screen.Screen{}) {
		t.Error("P11.1: Same")
	}
	for i, change := range []func(s *screen.Screen){
		func(s *screen.Screen) { s.Rows = 3 }, func(s *screen.Screen) { s.Cols = 4 }, func(s *screen.Screen) { s.Row = 0 }, func(s *screen.Screen) { s.Col = 0 }, func(s *screen.Screen) { s.Hidden = false }, func(s *screen.Screen) { s.Title = "u" },
		func(s *screen.Screen) { s.Cells[2].Rune = 'b' }, func(s *screen.Screen) { s.Cells[5].Flags = 1 }, func(s *screen.Screen) { s.Cells = s.Cells[:5] },
	} {
		s := some()
		if change(&s); screen.Same(s, some()) || screen.Same(some(), s) {
			t.Errorf("P11.1: Same of change %d", i)
		}
	}
}

func TestText(t *testing.T) {
	if l := screen.Text(some()); !slices.Equal(l, []string{"\u4E00a", "a"}) {
		t.Errorf("P11.2: %q", l)
	}
	s := some()
	s.Cells = []cell.Cell{space, a, space, {Rune: 0xA0}, space, a}
	if l := screen.Text(s); !slices.Equal(l, []string{" a", "\u00A0 a"}) {
		t.Errorf("P11.2: %q", l)
	}
	s.Cells = []cell.Cell{space, space, space, space, {Rune: 0xFFFD}, {Rune: 0x2003}}
	if l := screen.Text(s); !slices.Equal(l, []string{"", " \uFFFD\u2003"}) {
		t.Errorf("P11.2: %q", l)
	}
}

func TestNothingIsShared(t *testing.T) {
	s := some()
	c := screen.Copy(s)
	if !screen.Same(s, c) {
		t.Error("P11.1: a Copy is another")
	}
	_ = append(c.Cells, a)
	c.Cells[2].Rune = 'z'
	if !screen.Same(s, some()) {
		t.Error("P11.3: a Copy shares its cells")
	}
	s = some()
	s.Cells = append(make([]cell.Cell, 0, 10), s.Cells...)
	screen.May(s)
	screen.Text(s)
	if c := screen.Copy(s); len(c.Cells) != 6 || s.Cells[:7][6] != (cell.Cell{}) {
		t.Error("P11.3: what lies behind the cells counts")
	}
}

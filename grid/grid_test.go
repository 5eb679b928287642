package grid_test

import (
	"math"
	"math/rand"
	"slices"
	"testing"

	"tickertape/api"
	"tickertape/cell"
	"tickertape/grid"
)

var (
	red  = cell.Attr{Flags: 1, Fg: 2, Bg: 3}
	blue = cell.Attr{Flags: 4, Fg: 5, Bg: 6}
	none = cell.Attr{Fg: -1}
)

func sign(r rune, a cell.Attr) cell.Cell { return cell.Cell{Rune: r, Attr: a, Wide: cell.Width(r) - 1} }

func made(t *testing.T, rows, cols int) *grid.Grid {
	t.Helper()
	g, e := grid.New(rows, cols)
	if e != api.OK || g == nil {
		t.Fatal("P7.1: New:", e)
	}
	return g
}

// of makes a grid of the signs of each line: a wide one (W) takes two columns.
func of(t *testing.T, lines ...string) *grid.Grid {
	t.Helper()
	g := made(t, len(lines), len(lines[0]))
	for row, line := range lines {
		for col := range len(line) {
			switch line[col] {
			case 'W':
				g.Put(row, col, sign(0x4E00, red))
			case '-':
			default:
				g.Put(row, col, sign(rune(line[col]), red))
			}
		}
	}
	return g
}

// text shows each row: W- a wide sign, _ a blank of blue's Bg, ~ a space of red, . another blank.
func text(g *grid.Grid) []string {
	var l []string
	for row := range g.Rows() {
		line := ""
		for col := range g.Cols() {
			c := g.At(row, col)
			switch {
			case c.Wide == 1:
				line += "W"
			case c.Wide == 2:
				line += "-"
			case c == cell.Blank(blue):
				line += "_"
			case c == sign(' ', red):
				line += "~"
			case c == cell.Blank(cell.Attr{}):
				line += "."
			default:
				line += string(c.Rune)
			}
		}
		l = append(l, line)
	}
	return l
}

func want(t *testing.T, p string, g *grid.Grid, lines ...string) {
	t.Helper()
	if got := text(g); !slices.Equal(got, lines) {
		t.Errorf("%s: %q, want %q", p, got, lines)
	}
}

func TestNew(t *testing.T) {
	for _, c := range [][2]int{{0, 1}, {1, 0}, {-1, 5}, {61, 5}, {5, 201}, {math.MaxInt, math.MaxInt}, {5, math.MinInt}} {
		if g, e := grid.New(c[0], c[1]); g != nil || e != api.ErrRange {
			t.Errorf("P7.1: New(%v): %d", c, e)
		}
	}
	for _, c := range [][2]int{{1, 1}, {60, 200}, {2, 3}} {
		g := made(t, c[0], c[1])
		l := g.Cells()
		if g.Rows() != c[0] || g.Cols() != c[1] || len(l) != c[0]*c[1] {
			t.Errorf("P7.1: New(%v): %d, %d, %d cells", c, g.Rows(), g.Cols(), len(l))
		}
		for _, x := range l {
			if x != cell.Blank(cell.Attr{}) {
				t.Fatalf("P7.1: New(%v) has %v", c, x)
			}
		}
	}
}

func TestAtAndCells(t *testing.T) {
	g := of(t, "abc", "dWe")
	for _, c := range [][2]int{{-1, 0}, {0, -1}, {2, 0}, {0, 3}, {math.MaxInt, 0}, {0, math.MinInt}} {
		if g.At(c[0], c[1]) != (cell.Cell{}) {
			t.Errorf("P7.1: At(%v)", c)
		}
	}
	l := []cell.Cell{sign('a', red), sign('b', red), sign('c', red), sign('d', red), sign(' ', red), sign('e', red)}
	if !slices.Equal(g.Cells(), l) || g.At(1, 0) != l[3] || g.At(0, 2) != l[2] {
		t.Errorf("P7.1: Cells: %v", g.Cells())
	}
}

func TestSameAndCopy(t *testing.T) {
	g := of(t, "ab", "cd")
	c := g.Copy()
	if !grid.Same(g, c) || !grid.Same(g, g) || c == g {
		t.Error("P7.1: a Copy is another")
	}
	if grid.Same(made(t, 1, 4), made(t, 2, 2)) || grid.Same(made(t, 2, 2), made(t, 4, 1)) || grid.Same(made(t, 4, 1), made(t, 1, 4)) {
		t.Error("P7.1: Same of other sizes")
	}
	c.Put(1, 1, sign('x', red))
	if grid.Same(g, c) || g.At(1, 1) != sign('d', red) {
		t.Error("P7.1: a Copy shares its cells")
	}
	c.Put(1, 1, sign('d', blue))
	if grid.Same(g, c) {
		t.Error("P7.1: Same of other looks")
	}
}

func TestPut(t *testing.T) {
	g := of(t, "abcd")
	for i, c := range []struct {
		row, col int
		c        cell.Cell
	}{
		{1, 0, sign('x', red)}, {-1, 0, sign('x', red)}, {0, 4, sign('x', red)}, {0, -1, sign('x', red)}, {0, math.MaxInt, sign('x', red)},
		{0, 0, cell.Cell{}}, {0, 0, cell.Cell{Rune: 7}}, {0, 0, sign('x', none)}, {0, 0, cell.Cell{Wide: 2}}, {0, 0, cell.Cell{Rune: 0x4E00}}, {0, 0, cell.Cell{Rune: 'x', Wide: 1}}, {0, 0, cell.Cell{Rune: 'x', Wide: 3}},
	} {
		if g.Put(c.row, c.col, c.c) {
			t.Errorf("P7.2: case %d is put", i)
		}
	}
	want(t, "P7.2", g, "abcd")
	if !g.Put(0, 1, sign(0x4E00, blue)) || g.At(0, 1) != sign(0x4E00, blue) || g.At(0, 2) != (cell.Cell{Attr: blue, Wide: 2}) {
		t.Errorf("P7.2: a wide sign: %v", g.Cells())
	}
	want(t, "P7.2", g, "aW-d")
	if !g.Put(0, 3, sign(0x4E00, blue)) {
		t.Error("P7.2: a wide sign in the last column is not put")
	}
	want(t, "P7.2", g, "aW-_")
}

func TestPutMends(t *testing.T) {
	for _, c := range []struct {
		line string
		col  int
		r    rune
		want string
	}{
		{"W-", 1, 'A', "~A"}, {"W-", 0, 'A', "A~"}, {"W-W-", 1, 0x4E00, "~W-~"}, {"aW-b", 0, 0x4E00, "W-~b"}, {"W-W-", 2, 'x', "W-x~"}, {"W-W-", 1, 'x', "~xW-"}, {"W-c", 2, 0x4E00, "W-^"}, {"aW-", 2, 0x4E00, "a~^"},
	} {
		g := of(t, c.line)
		if !g.Put(0, c.col, sign(c.r, cell.Attr{Flags: 2, Bg: 9})) {
			t.Errorf("P7.2: %v is not put", c)
		}
		l := text(g)[0]
		if g.At(0, len(l)-1) == (cell.Blank(cell.Attr{Bg: 9})) {
			l = l[:len(l)-1] + "^"
		}
		if l != c.want {
			t.Errorf("P7.2: %v: %q", c, l)
		}
	}
}

func TestErase(t *testing.T) {
	for _, c := range []struct {
		row, from, to int
		a             cell.Attr
		want          string
	}{
		{0, 1, 3, blue, "a__def"}, {0, 0, 6, blue, "______"}, {0, 4, 99, blue, "abcd__"}, {0, -5, 2, blue, "__cdef"}, {0, math.MinInt, math.MaxInt, blue, "______"}, {0, 3, 3, blue, "abcdef"}, {0, 4, 2, blue, "abcdef"},
		{0, 6, 9, blue, "abcdef"}, {0, -9, 0, blue, "abcdef"}, {1, 0, 6, blue, "abcdef"}, {-1, 0, 6, blue, "abcdef"}, {math.MaxInt, 0, 6, blue, "abcdef"}, {0, 0, 6, none, "abcdef"}, {0, 0, 6, cell.Attr{Flags: 256}, "abcdef"}, {0, math.MaxInt, math.MinInt, blue, "abcdef"},
	} {
		g := of(t, "abcdef")
		g.Erase(c.row, c.from, c.to, c.a)
		if got := text(g)[0]; got != c.want {
			t.Errorf("P7.3: Erase %v: %q", c, got)
		}
	}
	g := of(t, "a", "b")
	g.Erase(1, 0, 1, blue)
	want(t, "P7.3", g, "a", "_")
	g = of(t, "W-aW-", "W-aW-")
	g.Erase(0, 1, 4, blue)
	want(t, "P7.3", g, "~___~", "W-aW-")
}

func TestShift(t *testing.T) {
	for _, c := range []struct {
		row, col, n int
		a           cell.Attr
		want        string
	}{
		{0, 1, 2, blue, "a__bcd"}, {0, 0, 1, blue, "_abcde"}, {0, 5, 1, blue, "abcde_"}, {0, 4, 9, blue, "abcd__"}, {0, 0, math.MaxInt, blue, "______"}, {0, 1, -2, blue, "adef__"}, {0, 0, -1, blue, "bcdef_"}, {0, 2, -4, blue, "ab____"},
		{0, 2, -9, blue, "ab____"}, {0, 2, math.MinInt, blue, "ab____"}, {0, 2, 0, blue, "abcdef"}, {0, 6, 1, blue, "abcdef"}, {0, -1, 1, blue, "abcdef"}, {1, 0, 1, blue, "abcdef"}, {-1, 0, -1, blue, "abcdef"}, {0, 0, 1, none, "abcdef"},
	} {
		g := of(t, "abcdef")
		g.Shift(c.row, c.col, c.n, c.a)
		if got := text(g)[0]; got != c.want {
			t.Errorf("P7.3: Shift %v: %q", c, got)
		}
	}
	for _, c := range []struct {
		col, n int
		want   string
	}{{1, 1, "~_~W-"}, {0, 1, "_W-W-"}, {0, 2, "__W-W"}, {0, -1, "~W-b_"}, {1, -1, "~W-b_"}, {2, 1, "W-_W-"}, {3, -1, "W-~b_"}} {
		g := of(t, "W-W-b")
		g.Shift(0, c.col, c.n, blue)
		w := c.want
		if w[4] == 'W' {
			w = w[:4] + "~"
		}
		if got := text(g)[0]; got != w {
			t.Errorf("P7.3: Shift %v mends: %q", c, got)
		}
	}
}

func TestScroll(t *testing.T) {
	for _, c := range []struct {
		top, bottom, n int
		a              cell.Attr
		want           string
	}{
		{0, 4, 1, blue, "bcde_"}, {0, 4, 3, blue, "de___"}, {0, 4, -1, blue, "_abcd"}, {1, 3, 1, blue, "acd_e"}, {1, 3, -2, blue, "a__be"}, {1, 3, 3, blue, "a___e"}, {1, 3, 99, blue, "a___e"}, {1, 3, math.MinInt, blue, "a___e"}, {0, 4, math.MaxInt, blue, "_____"},
		{2, 2, 1, blue, "ab_de"}, {1, 3, 0, blue, "abcde"}, {3, 1, 1, blue, "abcde"}, {-1, 3, 1, blue, "abcde"}, {0, 5, 1, blue, "abcde"}, {0, math.MaxInt, 1, blue, "abcde"}, {5, 5, 1, blue, "abcde"}, {0, 4, 1, none, "abcde"},
	} {
		g := of(t, "aW-", "bW-", "cW-", "dW-", "eW-")
		g.Scroll(c.top, c.bottom, c.n, c.a)
		got := ""
		for _, line := range text(g) {
			got += line[:1]
			if line[0] == '_' != (line == "___") || line[0] != '_' && line[1:] != "W-" {
				t.Errorf("P7.3: Scroll %v has a row %q", c, line)
			}
		}
		if got != c.want {
			t.Errorf("P7.3: Scroll %v: %q", c, got)
		}
	}
}

func TestFill(t *testing.T) {
	g := of(t, "aW-", "bcd")
	for _, c := range []cell.Cell{{}, {Wide: 2}, sign(0x4E00, red), sign('x', none), {Rune: 7}} {
		g.Fill(c)
	}
	want(t, "P7.3", g, "aW-", "bcd")
	g.Fill(sign('E', red))
	want(t, "P7.3", g, "EEE", "EEE")
}

func TestResize(t *testing.T) {
	g := of(t, "aW-b", "cdW-")
	for _, c := range [][2]int{{0, 1}, {1, 0}, {61, 1}, {1, 201}, {-1, -1}, {math.MaxInt, 2}} {
		if g.Resize(c[0], c[1]) != api.ErrRange {
			t.Errorf("P7.4: Resize(%v)", c)
		}
	}
	want(t, "P7.4", g, "aW-b", "cdW-")
	for _, c := range []struct {
		rows, cols int
		lines      []string
	}{
		{3, 5, []string{"aW-b.", "cdW-.", "....."}}, {2, 3, []string{"aW-", "cd~"}}, {1, 2, []string{"a~"}}, {2, 2, []string{"a~", ".."}}, {60, 200, nil}, {1, 3, []string{"a~."}},
	} {
		if e := g.Resize(c.rows, c.cols); e != api.OK || g.Rows() != c.rows || g.Cols() != c.cols || len(g.Cells()) != c.rows*c.cols {
			t.Errorf("P7.4: Resize %v: %d", c, e)
		}
		if c.lines != nil {
			want(t, "P7.4", g, c.lines...)
		}
	}
}

func TestHalvesStandInPairs(t *testing.T) {
	r := rand.New(rand.NewSource(1))
	g := made(t, 4, 7)
	signs := []rune{'a', 0x4E00, 'b', 0x1F600}
	for i := range 20000 {
		row, col, n := r.Intn(6)-1, r.Intn(9)-1, r.Intn(9)-4
		switch r.Intn(7) {
		case 0, 1, 2:
			g.Put(row, col, sign(signs[r.Intn(4)], red))
		case 3:
			g.Erase(row, col, col+n, blue)
		case 4:
			g.Shift(row, col, n, blue)
		case 5:
			g.Scroll(row, r.Intn(5), n, blue)
		case 6:
			if r.Intn(9) == 0 {
				g.Resize(1+r.Intn(5), 1+r.Intn(8))
			}
		}
		for row := range g.Rows() {
			for col := range g.Cols() {
				c := g.At(row, col)
				if !cell.May(c) || c.Wide == 1 && g.At(row, col+1).Wide != 2 || c.Wide == 2 && g.At(row, col-1).Wide != 1 {
					t.Fatalf("P7.6: step %d: %q", i, text(g))
				}
			}
		}
	}
}

func TestNothingIsShared(t *testing.T) {
	g := of(t, "abc")
	l := g.Cells()
	_ = append(l, sign('x', red))
	l[0] = sign('x', red)
	again := g.Cells()
	c := g.Copy()
	g.Put(0, 1, sign('y', red))
	if again[1] != sign('b', red) || again[0] != sign('a', red) || g.At(0, 0) != sign('a', red) || c.At(0, 1) != sign('b', red) {
		t.Error("P7.5: cells are shared")
	}
}

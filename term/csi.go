package term

import (
	"strconv"

	"tickertape/cell"
	"tickertape/esc"
	"tickertape/sgr"
)

// switches has the modes that are turned on and off, each with its sign and its number.
var switches = [...]struct {
	private     rune
	param, mode int
}{
	{0, 4, insert},
	{0, 20, newline},
	{'?', 6, origin},
	{'?', 7, wrap},
	{'?', 25, shown},
}

// csi does what a control sequence asks for.
func (t *Term) csi(e esc.Event) {
	switch {
	case e.Inter != 0:
	case e.Private == '?':
		t.turn(e)
	case e.Private == 0:
		// Each knows finals of its own.
		t.moves(e)
		t.edits(e)
		t.others(e)
	}
}

// param is the i-th param; 0, if it was not told.
func param(e esc.Event, i int) int {
	if i >= len(e.Params) {
		return 0
	}
	return max(e.Params[i], 0)
}

// count is the i-th param; 1, if it is 0 or was not told.
func count(e esc.Event, i int) int {
	return max(param(e, i), 1)
}

// moves does what brings the cursor elsewhere.
func (t *Term) moves(e esc.Event) {
	n := count(e, 0)
	switch e.Final {
	case 'A':
		t.up(n)
	case 'B', 'e':
		t.down(n)
	case 'C', 'a':
		t.column(t.col + n)
	case 'D':
		t.column(t.col - n)
	case 'E':
		t.down(n)
		t.col = 0
	case 'F':
		t.up(n)
		t.col = 0
	case 'G', '`':
		t.column(n - 1)
	case 'd':
		t.goTo(n-1, t.col)
	case 'H', 'f':
		t.goTo(n-1, count(e, 1)-1)
	case 'I':
		t.column(t.stops.Next(t.col, n))
	case 'Z':
		t.column(t.stops.Prev(t.col, n))
	}
}

// edits does what changes cells.
func (t *Term) edits(e esc.Event) {
	n, g := count(e, 0), t.grid()
	switch e.Final {
	case 'J':
		t.eraseScreen(param(e, 0))
	case 'K':
		t.eraseRow(param(e, 0))
	case 'L':
		t.lines(-n)
	case 'M':
		t.lines(n)
	case '@':
		g.Shift(t.row, t.col, n, t.pen)
	case 'P':
		g.Shift(t.row, t.col, -n, t.pen)
	case 'X':
		g.Erase(t.row, t.col, t.col+n, t.pen)
	case 'S':
		t.scroll(n)
	case 'T':
		t.scroll(-n)
	}
}

// others does what changes how the terminal goes on, or is answered.
func (t *Term) others(e esc.Event) {
	switch e.Final {
	case 'g':
		t.clearStops(param(e, 0))
	case 'm':
		t.pen = sgr.Apply(t.pen, e.Params...)
	case 'r':
		t.region(count(e, 0), param(e, 1))
	case 's':
		t.save()
	case 'u':
		t.restore()
	case 'n':
		t.report(param(e, 0))
	case 'c':
		if param(e, 0) == 0 {
			t.answer("\x1b[?62c")
		}
	case 'h', 'l':
		t.turn(e)
	}
}

// eraseRow erases from the cursor (0), up to the cursor (1), or all (2) of its row.
func (t *Term) eraseRow(which int) {
	switch which {
	case 0:
		t.grid().Erase(t.row, t.col, t.cols(), t.pen)
	case 1:
		t.grid().Erase(t.row, 0, t.col+1, t.pen)
	case 2:
		t.grid().Erase(t.row, 0, t.cols(), t.pen)
	}
}

// eraseScreen is as eraseRow, with the rows behind and ahead.
func (t *Term) eraseScreen(which int) {
	t.eraseRow(which)
	switch which {
	case 0:
		t.eraseRows(t.row+1, t.rows())
	case 1:
		t.eraseRows(0, t.row)
	case 2:
		t.eraseRows(0, t.rows())
	}
}

func (t *Term) eraseRows(from, to int) {
	for row := from; row < to; row++ {
		t.grid().Erase(row, 0, t.cols(), t.pen)
	}
}

func (t *Term) clearStops(which int) {
	switch which {
	case 0:
		t.stops.Clear(t.col)
	case 3:
		t.stops.ClearAll()
	}
}

// report replies that all is well (5), or where the cursor is (6).
func (t *Term) report(which int) {
	switch which {
	case 5:
		t.answer("\x1b[0n")
	case 6:
		row := t.row + 1
		if t.modes[origin] {
			row -= t.top
		}
		t.answer("\x1b[" + strconv.Itoa(row) + ";" + strconv.Itoa(t.col+1) + "R")
	}
}

func (t *Term) answer(s string) {
	t.reply = append(t.reply, s...)
}

// turn turns modes on or off.
func (t *Term) turn(e esc.Event) {
	on := e.Final == 'h'
	if !on && e.Final != 'l' {
		return
	}
	for _, p := range e.Params {
		for _, s := range switches {
			if s.private == e.Private && s.param == p {
				t.modes[s.mode] = on
			}
		}
		if e.Private == '?' {
			t.turned(p, on)
		}
	}
}

// turned does what is to be done beside a private mode.
func (t *Term) turned(p int, on bool) {
	switch p {
	case 6:
		t.home()
	case 7:
		t.pending = t.pending && on
	case 47:
		t.show(on)
	case 1047:
		if !on && t.which == otherGrid {
			t.blankOther()
		}
		t.show(on)
	case 1049:
		t.aside(on)
	}
}

func (t *Term) show(other bool) {
	t.which = mainGrid
	if other {
		t.which = otherGrid
	}
}

// aside goes to the other grid, and comes back to where it was.
func (t *Term) aside(on bool) {
	if on {
		t.save()
		t.blankOther()
	}
	t.show(on)
	if !on {
		t.restore()
	}
}

func (t *Term) blankOther() {
	t.grids[otherGrid].Fill(cell.Blank(cell.Attr{}))
}

package term

// goTo brings the cursor to a row and a column; with origin the row counts from the region's top.
func (t *Term) goTo(row, col int) {
	if t.modes[origin] {
		row = held(row+t.top, t.top, t.bottom)
	}
	t.cursor = t.place(row, col)
}

func (t *Term) home() {
	t.goTo(0, 0)
}

// column brings the cursor to another column of its row.
func (t *Term) column(col int) {
	t.cursor = t.place(t.row, col)
}

// up brings the cursor up by n: not out of the region, if it is within it.
func (t *Term) up(n int) {
	row := t.row - n
	if t.within() {
		row = max(row, t.top)
	}
	t.cursor = t.place(row, t.col)
}

// down is as up, the other way.
func (t *Term) down(n int) {
	row := t.row + n
	if t.within() {
		row = min(row, t.bottom)
	}
	t.cursor = t.place(row, t.col)
}

func (t *Term) within() bool {
	return t.row >= t.top && t.row <= t.bottom
}

// index goes a row down, where the region may scroll.
func (t *Term) index() {
	if t.row == t.bottom {
		t.scroll(1)
	} else {
		t.row = min(t.row+1, t.rows()-1)
	}
	t.pending = false
}

// back goes a row up, where the region may scroll.
func (t *Term) back() {
	if t.row == t.top {
		t.scroll(-1)
	} else {
		t.row = max(t.row-1, 0)
	}
	t.pending = false
}

func (t *Term) scroll(n int) {
	t.grid().Scroll(t.top, t.bottom, n, t.pen)
}

// lines scrolls what is below the cursor's row, and it, if the region has it.
func (t *Term) lines(n int) {
	if !t.within() {
		return
	}
	t.grid().Scroll(t.row, t.bottom, n, t.pen)
	t.column(0)
}

// region lets the rows from top to bottom (from 1 on) scroll.
func (t *Term) region(top, bottom int) {
	if bottom == 0 || bottom > t.rows() {
		bottom = t.rows()
	}
	if top >= bottom {
		return
	}
	t.top, t.bottom = top-1, bottom-1
	t.home()
}

func (t *Term) save() {
	t.saved = saved{cursor: t.cursor, pen: t.pen, origin: t.modes[origin]}
}

// restore brings back what was saved, which Resize has held within the screen.
func (t *Term) restore() {
	t.cursor, t.pen = t.saved.cursor, t.saved.pen
	t.modes[origin] = t.saved.origin
}

package term

import (
	"strings"

	"tickertape/api"
	"tickertape/cell"
	"tickertape/esc"
)

// print puts a sign at the cursor, which goes on.
func (t *Term) print(r rune) {
	width, last := cell.Width(r), t.cols()-1
	if width == 0 {
		return
	}
	if t.pending && t.modes[wrap] {
		t.nextLine()
	}
	// A wide sign has no room in the last column, but where there is no other one.
	if width == 2 && t.col == last && last > 0 {
		if t.modes[wrap] {
			t.nextLine()
		} else {
			t.col--
		}
	}
	if t.modes[insert] {
		t.grid().Shift(t.row, t.col, width, t.pen)
	}
	t.grid().Put(t.row, t.col, cell.Cell{Rune: r, Attr: t.pen, Wide: width - 1})
	t.col += width
	t.pending = t.modes[wrap] && t.col > last
	t.col = min(t.col, last)
}

func (t *Term) nextLine() {
	t.index()
	t.col = 0
}

// exec does what a control asks for.
func (t *Term) exec(r rune) {
	switch r {
	case 0x07:
		t.bells++
	case 0x08:
		t.column(t.col - 1)
	case 0x09:
		t.column(t.stops.Next(t.col, 1))
	case 0x0A, 0x0B, 0x0C:
		t.index()
		if t.modes[newline] {
			t.col = 0
		}
	case 0x0D:
		t.column(0)
	}
}

// esc does what an escape asks for.
func (t *Term) esc(e esc.Event) {
	switch {
	case e.Inter == 0:
		t.plainEsc(e.Final)
	case e.Inter == '#' && e.Final == '8':
		t.grid().Fill(cell.Cell{Rune: 'E'})
		t.top, t.bottom = 0, t.rows()-1
		t.home()
	}
}

func (t *Term) plainEsc(final rune) {
	switch final {
	case 'D':
		t.index()
	case 'E':
		t.nextLine()
	case 'M':
		t.back()
	case 'H':
		t.stops.Set(t.col)
	case '7':
		t.save()
	case '8':
		t.restore()
	case 'c':
		// The size is one that may be: it was made before.
		if s, e := fresh(t.rows(), t.cols()); e == api.OK {
			t.state = s
		}
	}
}

// osc takes a title.
func (t *Term) osc(text string) {
	for _, begin := range [...]string{"0;", "2;"} {
		if title, ok := strings.CutPrefix(text, begin); ok {
			t.title = cleaned(title)
			return
		}
	}
}

// cleaned is the signs that a title may have, as many as it may.
func cleaned(s string) string {
	var signs []rune
	for _, r := range s {
		if r >= 0x20 && (r < 0x7F || r > 0x9F) && len(signs) < api.MaxTitle {
			signs = append(signs, r)
		}
	}
	return string(signs)
}

package key_test

import (
	"bytes"
	"math"
	"math/rand"
	"slices"
	"strings"
	"testing"

	"tickertape/api"
	"tickertape/cell"
	"tickertape/key"
	"tickertape/screen"
	"tickertape/wire"
)

var (
	left  = cell.Cell{Rune: 0x4E00, Attr: cell.Attr{Flags: 1, Fg: 2, Bg: 3}, Wide: 1}
	right = cell.Cell{Attr: cell.Attr{Flags: 1, Fg: 2, Bg: 3}, Wide: 2}
	a     = cell.Cell{Rune: 'a'}
	true1 = cell.Cell{Rune: 'b', Attr: cell.Attr{Flags: 255, Fg: cell.True, Bg: 2*cell.True - 1}}
)

func some() screen.Screen {
	return screen.Screen{Rows: 2, Cols: 3, Cells: []cell.Cell{left, right, a, a, a, true1}, Row: 1, Col: 2, Hidden: true, Title: "t\u00E9"}
}

func nums(l ...uint64) []byte {
	var b []byte
	for _, n := range l {
		b = append(b, wire.Var(n)...)
	}
	return b
}

func TestCells(t *testing.T) {
	for i, c := range []struct {
		l    []cell.Cell
		want []byte
	}{
		{nil, nil}, {[]cell.Cell{a}, nums(1, 'a', 0, 0, 0, 0)}, {[]cell.Cell{a, a, a}, nums(3, 'a', 0, 0, 0, 0)}, {some().Cells, nums(1, 0x4E00, 1, 2, 3, 1, 1, 0, 1, 2, 3, 2, 3, 'a', 0, 0, 0, 0, 1, 'b', 255, cell.True, 2*cell.True-1, 0)},
		{[]cell.Cell{a, true1, a}, nums(1, 'a', 0, 0, 0, 0, 1, 'b', 255, cell.True, 2*cell.True-1, 0, 1, 'a', 0, 0, 0, 0)}, {slices.Repeat([]cell.Cell{a}, 300), nums(300, 'a', 0, 0, 0, 0)},
		{[]cell.Cell{{Rune: -1, Attr: cell.Attr{Flags: -2, Fg: -3, Bg: math.MinInt}, Wide: -1}}, nums(1, math.MaxUint64, math.MaxUint64-1, math.MaxUint64-2, 1<<63, math.MaxUint64)},
	} {
		if got := key.Cells(c.l); !bytes.Equal(got, c.want) {
			t.Errorf("P13.1: case %d: % X", i, got)
		}
	}
}

func TestReadCells(t *testing.T) {
	for i, l := range [][]cell.Cell{nil, {a}, {a, a, a}, some().Cells, {left, left, right}, {right}, {{Rune: 0x10FFFF}}, slices.Repeat([]cell.Cell{a}, api.MaxRows*api.MaxCols)} {
		r := wire.NewReader(append(key.Cells(l), 1, 2, 3))
		if got, ok := key.ReadCells(r, len(l)); !slices.Equal(got, l) || !ok || r.Left() != 3 || r.Err() != api.OK {
			t.Errorf("P13.1: case %d: %v, %v, %d left", i, got, ok, r.Left())
		}
	}
	r := wire.NewReader(key.Cells([]cell.Cell{a, a, a, true1}))
	if got, ok := key.ReadCells(r, 3); !slices.Equal(got, []cell.Cell{a, a, a}) || !ok {
		t.Errorf("P13.1: a beginning: %v, %v", got, ok)
	}
	if got, ok := key.ReadCells(r, 1); !slices.Equal(got, []cell.Cell{true1}) || !ok || r.Left() != 0 {
		t.Errorf("P13.1: the rest: %v, %v", got, ok)
	}
}

func TestReadCellsRefuses(t *testing.T) {
	one := nums(1, 'a', 0, 0, 0, 0)
	for i, c := range []struct {
		b []byte
		n int
	}{
		{nil, 1}, {one, 2}, {one, -1}, {one, math.MinInt}, {one, api.MaxRows*api.MaxCols + 1}, {one, math.MaxInt}, {one[:5], 1}, {append(slices.Clone(one), one...), 2}, {nums(0, 'a', 0, 0, 0, 0), 1}, {nums(0, 'b', 0, 0, 0, 0, 1, 'a', 0, 0, 0, 0), 1}, {append(slices.Clone(one), nums(2, 'b', 0, 0, 0, 0)...), 2}, {nums(2, 'a', 0, 0, 0, 0), 1}, {nums(1<<63, 'a', 0, 0, 0, 0), 1}, {nums(math.MaxUint64, 'a', 0, 0, 0, 0), 3},
		{append(slices.Clone(one), nums(0, 'b', 0, 0, 0, 0)...), 2}, {nums(1, 7, 0, 0, 0, 0), 1}, {nums(1, 0x4E00, 0, 0, 0, 0), 1}, {nums(1, 'a', 256, 0, 0, 0), 1}, {nums(1, 'a', 0, 257, 0, 0), 1}, {nums(1, 'a', 0, 0, 2*cell.True, 0), 1}, {nums(1, 'a', 0, 0, 0, 1), 1}, {nums(1, 'a', 0, 0, 0, 3), 1},
		{nums(1, 0x110000, 0, 0, 0, 0), 1}, {nums(1, 1<<32+'a', 0, 0, 0, 0), 1}, {nums(1, 'a', 1<<63, 0, 0, 0), 1}, {nums(1, 'a', 0, math.MaxUint64, 0, 0), 1}, {nums(1, 'a', 0, 0, 0, 1<<63), 1}, {[]byte{0x81, 0, 'a', 0, 0, 0, 0}, 1},
	} {
		if got, ok := key.ReadCells(wire.NewReader(c.b), c.n); got != nil || ok {
			t.Errorf("P13.1: case %d: %v, %v", i, got, ok)
		}
	}
	r := wire.NewReader(one)
	r.Raw(99)
	if got, ok := key.ReadCells(r, 1); got != nil || ok {
		t.Errorf("P13.1: of a Reader that has failed: %v, %v", got, ok)
	}
}

func TestEncode(t *testing.T) {
	blank, _ := screen.Blank(1, 2)
	for i, c := range []struct {
		s    screen.Screen
		want []byte
	}{
		{blank, []byte{1, 2, 0, 0, 0, 0, 2, 0x20, 0, 0, 0, 0}},
		{some(), slices.Concat(nums(2, 3, 1, 2, 1, 3), []byte("t\u00E9"), key.Cells(some().Cells))},
	} {
		if got, e := key.Encode(c.s); !bytes.Equal(got, c.want) || e != api.OK {
			t.Errorf("P13.2: case %d: % X, %d", i, got, e)
		}
		if got, e := key.Decode(c.want); !screen.Same(got, c.s) || e != api.OK {
			t.Errorf("P13.2: case %d: %v, %d", i, got, e)
		}
	}
	bad := some()
	bad.Row = 2
	for _, s := range []screen.Screen{{}, bad} {
		if b, e := key.Encode(s); b != nil || e != api.ErrRange {
			t.Errorf("P13.2: %v: % X, %d", s, b, e)
		}
	}
}

func TestDecodeRefuses(t *testing.T) {
	cells := key.Cells(some().Cells)
	of := func(title string, l ...uint64) []byte {
		return slices.Concat(nums(l...), nums(uint64(len(title))), []byte(title), cells)
	}
	if _, e := key.Decode(of("x", 2, 3, 1, 2, 0)); e != api.OK {
		t.Error("P13.2:", e)
	}
	all, _ := key.Encode(some())
	bad := [][]byte{
		of("x", 2, 3, 2, 2, 0), of("x", 2, 3, 1, 3, 0), of("x", 2, 3, 1, 2, 2), of("x", 3, 3, 1, 2, 0), of("x", 6, 1, 1, 0, 0), of("x", 1, 3, 0, 2, 0), of("x", 0, 3, 0, 0, 0), of("x", 61, 3, 1, 2, 0), of("x", 2, 201, 1, 2, 0), of("x", 1<<63, 3, 1, 2, 0), of("x", 2, 3, 1<<63, 2, 0),
		of("\x1F", 2, 3, 1, 2, 0), of("\xFF", 2, 3, 1, 2, 0), of(strings.Repeat("x", 65), 2, 3, 1, 2, 0), of(strings.Repeat("x", 300), 2, 3, 1, 2, 0), append(slices.Clone(all), 0), append([]byte{0x82, 0}, all[1:]...),
		slices.Concat(nums(2, 1, 0, 0, 0, 0), key.Cells([]cell.Cell{left, right})), slices.Concat(nums(1, 2, 0, 0, 0, 0), key.Cells([]cell.Cell{right, left})), slices.Concat(nums(1, 2, 0, 0, 0, 0), nums(1, 'a', 0, 0, 0, 0, 1, 'a', 0, 0, 0, 0)),
	}
	for n := range all {
		bad = append(bad, all[:n])
	}
	for i, b := range bad {
		if s, e := key.Decode(b); e != api.ErrForm || !screen.Same(s, screen.Screen{}) {
			t.Errorf("P13.2: case %d: %v, %d", i, s, e)
		}
	}
}

// random is a screen of any cells, halves in pairs.
func random(r *rand.Rand) screen.Screen {
	s, _ := screen.Blank(1+r.Intn(4), 1+r.Intn(6))
	for i := range s.Cells {
		if r.Intn(3) > 0 {
			s.Cells[i] = []cell.Cell{a, true1}[r.Intn(2)]
		}
		if i%s.Cols > 0 && s.Cells[i-1].Wide == 0 && r.Intn(4) == 0 {
			s.Cells[i-1], s.Cells[i] = left, right
		}
	}
	s.Row, s.Col, s.Hidden = r.Intn(s.Rows), r.Intn(s.Cols), r.Intn(2) == 0
	s.Title = strings.Repeat("\U0001F600", r.Intn(65))
	return s
}

func TestEachTextIsOneScreens(t *testing.T) {
	r := rand.New(rand.NewSource(1))
	for range 1000 {
		s := random(r)
		b, e := key.Encode(s)
		if got, e2 := key.Decode(b); e != api.OK || e2 != api.OK || !screen.Same(got, s) {
			t.Fatalf("P13.4: %v comes back as %v, %d, %d", s, got, e, e2)
		}
		for range 20 {
			c := slices.Clone(b)
			c[r.Intn(len(c))] = byte(r.Intn(5)) * byte(r.Intn(64))
			if got, e := key.Decode(c); e == api.OK {
				if again, e := key.Encode(got); e != api.OK || !bytes.Equal(again, c) {
					t.Fatalf("P13.4: % X is read as %v", c, got)
				}
			}
		}
	}
}

func TestNothingIsShared(t *testing.T) {
	b, _ := key.Encode(some())
	in := slices.Clone(b)
	s, _ := key.Decode(in)
	in[0], in[7] = 9, 9
	if !screen.Same(s, some()) {
		t.Error("P13.3: the screen shares the text's memory")
	}
	x := some()
	c, _ := key.Encode(x)
	c[0] = 9
	if again, _ := key.Encode(x); !bytes.Equal(again, b) || !screen.Same(x, some()) {
		t.Error("P13.3: the screen is changed")
	}
}

package diff_test

import (
	"bytes"
	"math/rand"
	"slices"
	"strings"
	"testing"

	"tickertape/api"
	"tickertape/cell"
	"tickertape/diff"
	"tickertape/key"
	"tickertape/screen"
	"tickertape/wire"
)

var (
	left  = cell.Cell{Rune: 0x4E00, Wide: 1}
	right = cell.Cell{Wide: 2}
)

// of is a screen of one row of these signs; W is a wide one.
func of(line string) screen.Screen {
	s := screen.Screen{Rows: 1, Cols: len(line)}
	for i := range len(line) {
		c := cell.Cell{Rune: rune(line[i])}
		switch line[i] {
		case 'W':
			c = left
		case '-':
			c = right
		}
		s.Cells = append(s.Cells, c)
	}
	return s
}

func nums(l ...uint64) []byte {
	var b []byte
	for _, n := range l {
		b = append(b, wire.Var(n)...)
	}
	return b
}

func cells(line string) []byte { return key.Cells(of(line).Cells) }

func join(l ...[]byte) []byte { return slices.Concat(l...) }

func TestMake(t *testing.T) {
	titled := of("abcdef")
	titled.Col, titled.Hidden, titled.Title = 5, true, "t\u00E9"
	other, _ := key.Encode(of("abc"))
	for i, c := range []struct {
		a, b screen.Screen
		want []byte
	}{
		{of("abcdef"), of("abcdef"), nums(0, 0, 0, 0, 0)}, {of("abcdef"), titled, join(nums(0, 0, 5, 1, 3), []byte("t\u00E9"))}, {titled, of("abcdef"), nums(0, 0, 0, 0, 0)},
		{of("abcdef"), of("xbcdef"), join(nums(0, 0, 0, 0, 0), nums(0, 1), cells("x"))}, {of("abcdef"), of("abxxef"), join(nums(0, 0, 0, 0, 0), nums(2, 2), cells("xx"))}, {of("abcdef"), of("axcyzz"), join(nums(0, 0, 0, 0, 0), nums(1, 1), cells("x"), nums(1, 3), cells("yzz"))}, {of("abcdef"), of("uvwxyz"), join(nums(0, 0, 0, 0, 0), nums(0, 6), cells("uvwxyz"))},
		{of("abcdef"), of("aW-W-f"), join(nums(0, 0, 0, 0, 0), nums(1, 4), cells("W-W-"))}, {of("abcdef"), of("abc"), append([]byte{1}, other...)}, {of("abc"), of("abc"), nums(0, 0, 0, 0, 0)},
	} {
		if got, e := diff.Make(c.a, c.b); !bytes.Equal(got, c.want) || e != api.OK {
			t.Errorf("P14.1: case %d: % X, %d; want % X", i, got, e, c.want)
		}
		if got, e := diff.Apply(c.a, c.want); !screen.Same(got, c.b) || e != api.OK {
			t.Errorf("P14.2: case %d: %v, %d", i, got, e)
		}
	}
	bad := of("ab")
	bad.Col = 2
	for i, c := range [][2]screen.Screen{{bad, of("ab")}, {of("ab"), bad}, {bad, bad}, {{}, of("ab")}, {of("ab"), {}}} {
		if d, e := diff.Make(c[0], c[1]); d != nil || e != api.ErrRange {
			t.Errorf("P14.1: bad case %d: % X, %d", i, d, e)
		}
	}
}

func TestRowsAreOneList(t *testing.T) {
	a, b := of("abcdef"), of("abxydf")
	a.Rows, a.Cols, b.Rows, b.Cols = 2, 3, 2, 3
	b.Cells[4] = a.Cells[4]
	want := join(nums(0, 0, 0, 0, 0), nums(2, 2), cells("xy"))
	if got, e := diff.Make(a, b); !bytes.Equal(got, want) || e != api.OK {
		t.Errorf("P14.1: % X, %d", got, e)
	}
	turned := a
	turned.Rows, turned.Cols = 3, 2
	text, _ := key.Encode(turned)
	if got, e := diff.Make(a, turned); !bytes.Equal(got, append([]byte{1}, text...)) || e != api.OK {
		t.Errorf("P14.1: of another size: % X, %d", got, e)
	}
}

func TestApplyRefuses(t *testing.T) {
	a := of("abcdef")
	head := nums(0, 0, 0, 0, 0)
	same, _ := key.Encode(of("uvwxyz"))
	other, _ := key.Encode(of("abc"))
	two := join(head, nums(1, 1), cells("x"), nums(1, 3), cells("yzz"))
	bad := [][]byte{
		nil, {2}, {0}, nums(0, 1, 0, 0, 0), nums(0, 0, 6, 0, 0), nums(0, 0, 0, 2, 0), nums(0, 0, 0, 0, 1), join(nums(0, 0, 0, 0, 1), []byte("\x1F")), join(nums(0, 0, 0, 0, 1), []byte("\xFF")), nums(0, 1<<63, 0, 0, 0), {0x80, 0, 0, 0, 0, 0},
		append([]byte{1}, same...), append([]byte{1}, other[:5]...), join([]byte{1}, other, []byte{0}), {1}, join(head, nums(6)), join(head, nums(7)), join(head, nums(0, 0)), join(head, nums(0, 1)), join(head, nums(6, 1), cells("x")), join(head, nums(5, 2), cells("xy")), join(head, nums(0, 1), cells("a")),
		join(head, nums(0, 2), cells("xb")), join(head, nums(0, 2), cells("ax")), join(head, nums(0, 1), cells("x"), nums(0, 1), cells("y")), join(head, nums(0, 1), cells("W")), join(head, nums(1, 1), cells("-")), join(head, nums(0, 1), cells("xy")), join(head, nums(1<<63, 1), cells("x")), join(head, nums(0, 1<<63), cells("x")),
		join(head, nums(0, 2), nums(1, 'x', 0, 0, 0, 0, 1, 'x', 0, 0, 0, 0)), join(head, nums(0, 1), nums(1, 7, 0, 0, 0, 0)), append(slices.Clone(two), 0),
	}
	for n := range two {
		if n != len(head) && n != len(head)+2+6 {
			bad = append(bad, two[:n])
		}
	}
	title := func(n int) []byte {
		return join(nums(0, 0, 0, 0, uint64(4*n)), []byte(strings.Repeat("\U0001F600", n)))
	}
	bad = append(bad, title(api.MaxTitle+1), title(500))
	if b, e := diff.Apply(a, title(api.MaxTitle)); len(b.Title) != 4*api.MaxTitle || e != api.OK {
		t.Errorf("P14.2: the longest title: %d", e)
	}
	for i, d := range bad {
		if b, e := diff.Apply(a, d); e != api.ErrForm || !screen.Same(b, screen.Screen{}) {
			t.Errorf("P14.2: case %d: % X: %v, %d", i, d, b, e)
		}
	}
	a.Row = 1
	for _, d := range [][]byte{head, nil, append([]byte{1}, other...)} {
		if b, e := diff.Apply(a, d); e != api.ErrRange || !screen.Same(b, screen.Screen{}) {
			t.Errorf("P14.2: of what may not be: %v, %d", b, e)
		}
	}
}

// random is a screen of few signs, so that stretches meet.
func random(r *rand.Rand, cols int) screen.Screen {
	s, _ := screen.Blank(2, cols)
	for i := range s.Cells {
		s.Cells[i].Rune = 'a' + rune(r.Intn(2))
		if i%cols > 0 && s.Cells[i-1].Wide == 0 && r.Intn(4) == 0 {
			s.Cells[i-1], s.Cells[i] = left, right
		}
	}
	s.Row, s.Col, s.Hidden, s.Title = r.Intn(2), r.Intn(cols), r.Intn(2) == 0, []string{"", "x"}[r.Intn(2)]
	return s
}

func TestApplyOfMake(t *testing.T) {
	r := rand.New(rand.NewSource(1))
	for range 2000 {
		cols := 1 + r.Intn(6)
		a, b := random(r, cols), random(r, cols+r.Intn(8)/7)
		d, e := diff.Make(a, b)
		if got, e2 := diff.Apply(a, d); e != api.OK || e2 != api.OK || !screen.Same(got, b) {
			t.Fatalf("P14.4: %v to %v: %v, %d, %d", a, b, got, e, e2)
		}
		for range 20 {
			c := slices.Clone(d)
			c[r.Intn(len(c))] = []byte{0, 1, 2, 3, 'a', 'b', byte(r.Intn(256))}[r.Intn(7)]
			if got, e := diff.Apply(a, c); e == api.OK {
				if again, e := diff.Make(a, got); e != api.OK || !bytes.Equal(again, c) {
					t.Fatalf("P14.4: % X of %v makes %v", c, a, got)
				}
			}
		}
	}
}

func TestNothingIsShared(t *testing.T) {
	a, b := of("abcdef"), of("axcdef")
	d, _ := diff.Make(a, b)
	s, _ := diff.Apply(a, d)
	s.Cells[0].Rune, s.Cells[1].Rune = 'q', 'q'
	if !screen.Same(a, of("abcdef")) || !screen.Same(b, of("axcdef")) {
		t.Error("P14.3: what was handed in is changed")
	}
	s, _ = diff.Apply(a, d)
	a.Cells[0].Rune = 'z'
	d[len(d)-5] = 'z'
	if !screen.Same(s, of("axcdef")) {
		t.Error("P14.3: the answer shares its cells")
	}
}

package term_test

import (
	"fmt"
	"math"
	"math/rand"
	"slices"
	"strings"
	"testing"

	"tickertape/api"
	"tickertape/cell"
	"tickertape/screen"
	"tickertape/term"
)

func made(t *testing.T, rows, cols int) *term.Term {
	t.Helper()
	x, e := term.New(rows, cols)
	if x == nil || e != api.OK {
		t.Fatal("P12.1: New:", e)
	}
	return x
}

// text shows each row whole: < the left half of a wide sign, > the right one.
func text(s screen.Screen) []string {
	var l []string
	for row := range s.Rows {
		line := ""
		for _, c := range s.Cells[row*s.Cols : (row+1)*s.Cols] {
			line += string([]rune{[]rune{c.Rune, '<', '>'}[c.Wide]})
		}
		l = append(l, line)
	}
	return l
}

// given is what is written to a terminal (^ is an escape), its rows then (| between), and its cursor.
type given struct {
	in, want string
	row, col int
}

func escaped(s string) []byte { return []byte(strings.ReplaceAll(s, "^", "\x1b")) }

func check(t *testing.T, p string, l []given) {
	t.Helper()
	for _, c := range l {
		want := strings.Split(c.want, "|")
		x := made(t, len(want), len([]rune(want[0])))
		x.Write(escaped(c.in))
		s := x.Screen()
		if got := text(s); !slices.Equal(got, want) || s.Row != c.row || s.Col != c.col || !screen.May(s) {
			t.Errorf("%s: %q: %q, at %d, %d; want %q, at %d, %d", p, c.in, got, s.Row, s.Col, want, c.row, c.col)
		}
	}
}

func TestNew(t *testing.T) {
	for _, c := range [][2]int{{0, 1}, {1, 0}, {61, 1}, {1, 201}, {-1, -1}, {math.MaxInt, 5}} {
		if x, e := term.New(c[0], c[1]); x != nil || e != api.ErrRange {
			t.Errorf("P12.1: New(%v): %d", c, e)
		}
	}
	for _, c := range [][2]int{{1, 1}, {60, 200}, {24, 80}} {
		x := made(t, c[0], c[1])
		if want, _ := screen.Blank(c[0], c[1]); !screen.Same(x.Screen(), want) || len(x.Reply()) != 0 || x.Bells() != 0 {
			t.Errorf("P12.1: New(%v): %v", c, x.Screen())
		}
	}
}

func TestPrint(t *testing.T) {
	check(t, "P12.2", []given{
		{"", "    |    ", 0, 0}, {"ab", "ab  |    ", 0, 2}, {"abcd", "abcd|    ", 0, 3}, {"abcde", "abcd|e   ", 1, 1}, {"abcdefghi", "efgh|i   ", 1, 1}, {"A^[2;2HB", "A   | B  ", 1, 2},
		{"a\u0300b", "ab  |    ", 0, 2}, {"abcd\u0300e", "abcd|e   ", 1, 1}, {"abcd\u0300", "abcd|    ", 0, 3}, {"\u4E00b", "<>b |    ", 0, 3}, {"ab\u4E00", "ab<>|    ", 0, 3}, {"ab\u4E00c", "ab<>|c   ", 1, 1}, {"abc\u4E00", "abc |<>  ", 1, 2}, {"abcd\u4E00", "abcd|<>  ", 1, 2},
		{"\u4E00^[1;2HA", " A  |    ", 0, 2}, {"\xE2\x82A", "\uFFFDA  |    ", 0, 2},
		{"^[?7labcde", "abce|    ", 0, 3}, {"^[?7labc\u4E00", "ab<>|    ", 0, 3}, {"^[?7labcd\u4E00", "ab<>|    ", 0, 3}, {"^[?7labc\u4E00x", "ab x|    ", 0, 3}, {"abcd^[?7l^[?7he", "abce|    ", 0, 3},
		{"bcd^[1;1H^[4ha", "abcd|    ", 0, 1}, {"abcd^[1;2H^[4h\u4E00", "a<>b|    ", 0, 3}, {"abcd^[1;2H^[4hx^[4ly", "axyc|    ", 0, 3}, {"^[4habcde", "abcd|e   ", 1, 1},
		{"\u4E00", " | ", 0, 0}, {"a\u4E00", "a| ", 1, 0}, {"ab", "a|b", 1, 0}, {"abc", "b|c", 1, 0}, {"^[?7lab\u4E00", " | ", 0, 0}, {"a\u4E00", "a |<>", 1, 1}, {"\u4E00\u4E00a", " |a", 1, 0},
	})
}

func TestPrintHasThePen(t *testing.T) {
	x := made(t, 1, 4)
	x.Write(escaped("^[1;31;44ma\u4E00^[me"))
	pen := cell.Attr{Flags: 1, Fg: 2, Bg: 5}
	want := []cell.Cell{{Rune: 'a', Attr: pen}, {Rune: 0x4E00, Attr: pen, Wide: 1}, {Attr: pen, Wide: 2}, {Rune: 'e'}}
	if got := x.Screen().Cells; !slices.Equal(got, want) {
		t.Errorf("P12.2: %v", got)
	}
	x = made(t, 2, 1)
	x.Write(escaped("^[1;44m\u4E00"))
	if got := x.Screen().Cells[0]; got != cell.Blank(pen) {
		t.Errorf("P12.2: a wide sign in one column: %v", got)
	}
}

func TestPendingIsSaved(t *testing.T) {
	check(t, "P12.2, P12.4", []given{
		{"abcd^7^[1;1H^8e", "abcd|e   ", 1, 1}, {"abcd^7^[1;1H^[?7l^8e", "abce|    ", 0, 3}, {"abcd^7^[1;1H^[?7l^8e^[?7hf", "abcf|    ", 0, 3}, {"abc^7d^8e", "abce|    ", 0, 3},
		{"abcd^[1me", "abcd|e   ", 1, 1}, {"abcd^[Ke", "abc |e   ", 1, 1}, {"abcd\x07e", "abcd|e   ", 1, 1}, {"abcd\x08e", "abed|    ", 0, 3}, {"abcd\x0De", "ebcd|    ", 0, 1}, {"abcd\te", "abce|    ", 0, 3}, {"abcd\ne", "abcd|   e", 1, 3}, {"abcd^[Ce", "abce|    ", 0, 3}, {"abcd^[4Ge", "abce|    ", 0, 3}, {"abcd^[de", "abce|    ", 0, 3}, {"abcd^[1;4He", "abce|    ", 0, 3},
		{"abcd^[Ae", "abce|    ", 0, 3}, {"abcd^[Be", "abcd|   e", 1, 3}, {"abcd^[Ie", "abce|    ", 0, 3}, {"abcd^De", "abcd|   e", 1, 3}, {"abcd^Me", "   e|abcd", 0, 3}, {"abcd^[re", "ebcd|    ", 0, 1}, {"abcd^[?6le", "ebcd|    ", 0, 1}, {"abcd^[Le", "e   |abcd", 0, 1},
	})
}

func TestExec(t *testing.T) {
	check(t, "P12.3", []given{
		{"ab\x08c", "ac   |     ", 0, 2}, {"\x08\x08a", "a    |     ", 0, 1}, {"ab\nc", "ab   |  c  ", 1, 3}, {"ab\x0Bc", "ab   |  c  ", 1, 3}, {"ab\x0Cc", "ab   |  c  ", 1, 3}, {"ab\r\nc", "ab   |c    ", 1, 1}, {"ab\n\nc", "     |  c  ", 1, 3},
		{"^[20hab\nc", "ab   |c    ", 1, 1}, {"^[20hab\x0Bc", "ab   |c    ", 1, 1}, {"^[20hab\x0Cc^[20ld\ne", "cd   |  e  ", 1, 3}, {"a\tb", "a   b|     ", 0, 4}, {"a\tb", "a       b |          ", 0, 9}, {"a\x00\x05\x0Eb", "ab   |     ", 0, 2},
	})
	x := made(t, 1, 2)
	if x.Write([]byte("\x07a\x07\x1b[\x07m")); x.Bells() != 3 {
		t.Errorf("P12.3: %d bells", x.Bells())
	}
	if x.Write([]byte("\x1b]0;t\x07\x1bP\x07\x1b\\")); x.Bells() != 3 {
		t.Errorf("P12.3: %d bells behind texts", x.Bells())
	}
}

func TestEsc(t *testing.T) {
	check(t, "P12.4", []given{
		{"ab^Dc", "ab  |  c |    ", 1, 3}, {"a\n\n^Db", "    |    | b  ", 2, 2}, {"ab^Ec", "ab  |c   |    ", 1, 1}, {"^Ma", "a   |    |    ", 0, 1}, {"ab^Mc", "  c |ab  |    ", 0, 3}, {"ab\n^Mc", "abc |    |    ", 0, 3},
		{"^[2;3r^[3;1Hx^[1;1Ha^Mb", "ab  |    |x   ", 0, 2}, {"^[2;3r^[2;1Hx^My", "    | y  |x   ", 1, 2}, {"^[1;2rx^[2;1Hy^Dz", "y   | z  |    ", 1, 2}, {"^[1;2r^[3;1Hx^Dy", "    |    |xy  ", 2, 2},
		{"ab^7^[3;3Hc^8d", "abd |    |  c ", 0, 3}, {"ab^8c", "cb  |    |    ", 0, 1}, {"ab^cc", "c   |    |    ", 0, 1}, {"^#8", "EEEE|EEEE|EEEE", 0, 0}, {"ab^[2;3r^[3;3H^#8c", "cEEE|EEEE|EEEE", 0, 1}, {"a^#7^#9^(8^Zb", "ab  |    |    ", 0, 2}, {"^[3;1H^Ma", "    |a   |    ", 1, 1}, {"^[1;2r^#8^[3;1H\n", "EEEE|EEEE|    ", 2, 0}, {"^[2;3r^#8^M", "    |EEEE|EEEE", 0, 0},
		{"ab^[s^[3;3Hc^[ud", "abd |    |  c ", 0, 3}, {"abcd^[s^[H^[ue", "abcd|e   |    ", 1, 1}, {"ab^[s^[H^8c", "abc |    |    ", 0, 3}, {"ab^[?s^[H^[?uc^[u", "cb  |    |    ", 0, 0},
	})
	check(t, "P12.4", []given{
		{"^[3g^[1;3H^H\r\ta", "  a    ", 0, 3}, {"^[1;3H^H\r\ta\tb^c\tc", "      c", 0, 6}, {"^[1m^[2;2r^[?6h^[4h^[20h^]0;t\x07^[?25l^7^cab\ncd", "ab  |  cd", 1, 3},
	})
}

func TestEscKeepsPenAndOrigin(t *testing.T) {
	x := made(t, 3, 4)
	x.Write(escaped("^[1;31m^[2;3r^[?6h^[1;2H^7^[m^[?6l^[3;3H^8a^[1;1Hb"))
	s := x.Screen()
	if l := text(s); !slices.Equal(l, []string{"    ", "ba  ", "    "}) || s.Cells[5].Attr != (cell.Attr{Flags: 1, Fg: 2}) {
		t.Errorf("P12.4: %q, %v", l, s.Cells[5])
	}
	x.Write(escaped("^c^[2;3H^8c"))
	if s = x.Screen(); !slices.Equal(text(s), []string{"c   ", "    ", "    "}) || s.Cells[0] != (cell.Cell{Rune: 'c'}) {
		t.Errorf("P12.4: behind c: %q, %v", text(s), s.Cells[0])
	}
}

func TestResetKeepsBellsAndReply(t *testing.T) {
	x := made(t, 2, 3)
	x.Write(escaped("\x07^[5n^]0;t\x07^[?25l^[?1049hab^c"))
	s := x.Screen()
	if want, _ := screen.Blank(2, 3); !screen.Same(s, want) || x.Bells() != 1 || string(x.Reply()) != "\x1b[0n" {
		t.Errorf("P12.4: %v, %d bells", s, x.Bells())
	}
	x.Write(escaped("^[?1049l"))
	if want, _ := screen.Blank(2, 3); !screen.Same(x.Screen(), want) {
		t.Errorf("P12.4: %v", x.Screen())
	}
}

func TestMoves(t *testing.T) {
	check(t, "P12.5", []given{
		{"^[3;3H^[Aa", "     |  a  |     |     ", 1, 3}, {"^[3;3H^[2Aa", "  a  |     |     |     ", 0, 3}, {"^[3;3H^[99Aa", "  a  |     |     |     ", 0, 3}, {"^[3;3H^[0Aa", "     |  a  |     |     ", 1, 3}, {"^[1;3H^[Ba", "     |  a  |     |     ", 1, 3}, {"^[99Ba", "     |     |     |a    ", 3, 1}, {"^[2ea", "     |     |a    |     ", 2, 1},
		{"^[2;3r^[3;1H^[9Aa", "     |a    |     |     ", 1, 1}, {"^[2;3r^[2;1H^[9Ba", "     |     |a    |     ", 2, 1}, {"^[2;3r^[4;1H^[9Aa", "a    |     |     |     ", 0, 1}, {"^[2;3r^[1;1H^[9Ba", "     |     |     |a    ", 3, 1},
		{"^[2Ca", "  a  |     |     |     ", 0, 3}, {"^[99Ca", "    a|     |     |     ", 0, 4}, {"^[aa", " a   |     |     |     ", 0, 2}, {"abc^[2Dd", "adc  |     |     |     ", 0, 2}, {"abc^[99Dd", "dbc  |     |     |     ", 0, 1}, {"ab^[Ec", "ab   |c    |     |     ", 1, 1}, {"ab^[2Ec", "ab   |     |c    |     ", 2, 1}, {"^[3;3H^[Fa", "     |a    |     |     ", 1, 1},
		{"^[3Ga", "  a  |     |     |     ", 0, 3}, {"^[99`a", "    a|     |     |     ", 0, 4}, {"abc^[Gd", "dbc  |     |     |     ", 0, 1}, {"ab^[3dc", "ab   |     |  c  |     ", 2, 3}, {"ab^[99dc", "ab   |     |     |  c  ", 3, 3}, {"^[2;3Ha", "     |  a  |     |     ", 1, 3}, {"^[;3fa", "  a  |     |     |     ", 0, 3}, {"^[2Ha", "     |a    |     |     ", 1, 1}, {"b^[Ha", "a    |     |     |     ", 0, 1}, {"^[0;0Ha", "a    |     |     |     ", 0, 1}, {"^[99;99Ha", "     |     |     |    a", 3, 4},
		{"^[2;3r^[?6h^[1;2Ha", "     | a   |     |     ", 1, 2}, {"^[2;3r^[?6h^[9;2Ha", "     |     | a   |     ", 2, 2}, {"^[2;3r^[?6h^[2da", "     |     |a    |     ", 2, 1}, {"^[2;3r^[?6h^[9da", "     |     |a    |     ", 2, 1}, {"^[1;2?H^[1!Aab", "ab   |     |     |     ", 0, 2}, {"^[?2;2H^[>3Ga", "a    |     |     |     ", 0, 1},
	})
	check(t, "P12.5", []given{
		{"^[Ia", "        a         ", 0, 9}, {"^[2Ia", "                a ", 0, 17}, {"^[9Ia", "                 a", 0, 17}, {"^[1;18H^[Za", "                a ", 0, 17}, {"^[1;18H^[2Za", "        a         ", 0, 9}, {"^[1;18H^[9Za", "a                 ", 0, 1}, {"^[1;9H^[g\r\ta", "                a ", 0, 17}, {"^[1;9H^[1g\r\ta", "        a         ", 0, 9}, {"^[3g\ta", "                 a", 0, 17},
	})
}

func TestErases(t *testing.T) {
	full := "abcd|efgh|ijkl"
	fill := "abcdefghijkl"
	check(t, "P12.5", []given{
		{fill + "^[2;2H", full, 1, 1}, {fill + "^[2;2H^[J", "abcd|e   |    ", 1, 1}, {fill + "^[2;2H^[1J", "    |  gh|ijkl", 1, 1}, {fill + "^[2;2H^[2J", "    |    |    ", 1, 1}, {fill + "^[2;2H^[3J", full, 1, 1}, {fill + "^[2;2H^[K", "abcd|e   |ijkl", 1, 1}, {fill + "^[2;2H^[1K", "abcd|  gh|ijkl", 1, 1}, {fill + "^[2;2H^[2K", "abcd|    |ijkl", 1, 1}, {fill + "^[2;2H^[3K", full, 1, 1}, {fill + "^[2;2H^[?K", full, 1, 1}, {fill + "^[2;2H^[;J", "abcd|e   |    ", 1, 1}, {fill + "^[2;2H^[;2K", "abcd|e   |ijkl", 1, 1},
		{fill + "^[2;2H^[L", "abcd|    |efgh", 1, 0}, {fill + "^[1;2H^[2L", "    |    |abcd", 0, 0}, {fill + "^[2;2H^[M", "abcd|ijkl|    ", 1, 0}, {fill + "^[1;2H^[99M", "    |    |    ", 0, 0}, {fill + "^[1;2r^[1;2H^[L", "    |abcd|ijkl", 0, 0}, {fill + "^[1;2r^[1;2H^[M", "efgh|    |ijkl", 0, 0}, {fill + "^[1;2r^[3;2H^[L", full, 2, 1}, {fill + "^[2;3r^[1;2H^[M", full, 0, 1},
		{fill + "^[2;2H^[@", "abcd|e fg|ijkl", 1, 1}, {fill + "^[2;2H^[9@", "abcd|e   |ijkl", 1, 1}, {fill + "^[2;2H^[2P", "abcd|eh  |ijkl", 1, 1}, {fill + "^[2;2H^[2X", "abcd|e  h|ijkl", 1, 1}, {fill + "^[2;2H^[X", "abcd|e gh|ijkl", 1, 1}, {fill + "^[2;2H^[99X", "abcd|e   |ijkl", 1, 1},
		{fill + "^[S", "efgh|ijkl|    ", 2, 3}, {fill + "^[2T", "    |    |abcd", 2, 3}, {fill + "^[1;2r^[S", "efgh|    |ijkl", 0, 0}, {fill + "^[2;3r^[T", "abcd|    |efgh", 0, 0},
		{fill + "^[1;1H\u4E00^[1;2H^[X", "  cd|efgh|ijkl", 0, 1}, {fill + "^[1;2H^[4hx", "axbc|efgh|ijkl", 0, 2},
	})
}

func TestBlanksHaveThePensBg(t *testing.T) {
	blue := cell.Blank(cell.Attr{Bg: 5})
	for _, in := range []string{"^[2J", "^[2K", "^[9L", "^[9M", "^[9@", "^[9P", "^[9X", "^[9S", "^[9T", "\n", "^M", "^D"} {
		x := made(t, 1, 2)
		x.Write(escaped("ab^[1;1H^[1;31;44m" + in))
		if s := x.Screen(); s.Cells[0] != blue || s.Cells[1] != blue {
			t.Errorf("P12.1: %q: %v", in, s.Cells)
		}
	}
}

func TestRegion(t *testing.T) {
	check(t, "P12.5", []given{
		{"abcdefgh^[2;3r", "ab|cd|ef|gh", 0, 0}, {"abcdefgh^[2;3r^[3;1H\n", "ab|ef|  |gh", 2, 0}, {"abcdefgh^[2;3r^[2;1H^M", "ab|  |cd|gh", 1, 0}, {"abcdefgh^[2r^[4;1H\n", "ab|ef|gh|  ", 3, 0}, {"abcdefgh^[;2r^[2;1H\n", "cd|  |ef|gh", 1, 0}, {"abcdefgh^[2;99r^[4;1H\n", "ab|ef|gh|  ", 3, 0}, {"abcdefgh^[2;0r^[4;1H\n", "ab|ef|gh|  ", 3, 0}, {"abcdefgh^[0;2r^[2;1H\n", "cd|  |ef|gh", 1, 0},
		{"abcdefgh^[2;3r^[3;2r^[3;1H\n", "ab|ef|  |gh", 2, 0}, {"abcdefgh^[2;3r^[4;2H^[2;2r", "ab|cd|ef|gh", 3, 1}, {"abcdefgh^[9;9r", "ab|cd|ef|gh", 3, 1}, {"abcdefgh^[2;3r^[r^[4;1H\n", "cd|ef|gh|  ", 3, 0}, {"^[2;3r^[?6h^[2;3rx", "  |x |  |  ", 1, 1}, {"^[2;3r^[4;1Hab", "  |  |  |ab", 3, 1}, {"^[2;3r^[4;1Habc", "  |  |  |cb", 3, 1},
	})
}

func TestReply(t *testing.T) {
	for in, want := range map[string]string{
		"^[5n": "\x1b[0n", "^[6n": "\x1b[1;1R", "^[2;3H^[6n": "\x1b[2;3R", "^[2;3r^[?6h^[2;2H^[6n": "\x1b[2;2R", "^[c": "\x1b[?62c", "^[0c": "\x1b[?62c", "^[;1c": "\x1b[?62c", "^[1c": "", "^[n^[7n^[?6n^[>c": "", "^[5n^[c^[6n": "\x1b[0n\x1b[?62c\x1b[1;1R", "abcd^[6n": "\x1b[1;4R",
		"^[?6h^7^[?6l^[3;4r^8^[6n": "\x1b[-1;1R",
	} {
		x := made(t, 4, 4)
		x.Write(escaped(in))
		if got := x.Reply(); string(got) != want {
			t.Errorf("P12.5: %q: %q, want %q", in, got, want)
		}
		if got := x.Reply(); len(got) != 0 {
			t.Errorf("P12.1: %q: replied twice: %q", in, got)
		}
	}
}

func TestModes(t *testing.T) {
	check(t, "P12.6", []given{
		{"^[2;3r^[3;3H^[?6h", "   |   |   ", 1, 0}, {"^[2;3r^[3;3H^[?6l", "   |   |   ", 0, 0}, {"^[?7l^[3;1Habcd", "   |   |abd", 2, 2}, {"^[?7;7habcd", "abc|d  |   ", 1, 1}, {"^[4;20hb\na^[1;1Hx", "xb |a  |   ", 0, 1}, {"^[?4h^[?20hb\na", "b  | a |   ", 1, 2}, {"^[6h^[7labcd", "abc|d  |   ", 1, 1}, {"^[20;4hb^[1;1Ha", "ab |   |   ", 0, 1},
		{"ab^[?47hcd", "  c|d  |   ", 1, 1}, {"ab^[?47h", "   |   |   ", 0, 2}, {"ab^[?47hc^[?47l", "ab |   |   ", 0, 2}, {"ab^[?47hc^[?47l^[?47h", "  c|   |   ", 0, 2}, {"ab^[?1047hc^[?1047l^[?1047h", "   |   |   ", 0, 2}, {"ab^[?1047hc^[?1047h", "  c|   |   ", 0, 2}, {"ab^[?47hc^[?47l^[?1047l^[?47h", "  c|   |   ", 0, 2}, {"ab^[?1047hc^[?1047l", "ab |   |   ", 0, 2},
		{"ab^[?1049hc", "  c|   |   ", 0, 2}, {"ab^[?1049h^[3;3Hc^[?1049ld", "abd|   |   ", 0, 2}, {"ab^[?47hc^[?47l^[?1049h", "   |   |   ", 0, 2}, {"a^[?1049hb^[?1049h^[3;1H^[?1049l", "a  |   |   ", 0, 2}, {"ab^7^[3;1H^[?1049l", "ab |   |   ", 0, 2}, {"a^[?1049hbc^[?1049l^[?47h", " bc|   |   ", 0, 1},
	})
	x := made(t, 1, 2)
	for _, c := range []struct {
		in     string
		hidden bool
	}{{"^[?25l", true}, {"^[25h", true}, {"^[?25x", true}, {"^[?25h", false}, {"^[?25m", false}, {"^[?25n", false}, {"^[?25l^c", false}, {"^[?6;25l", true}} {
		if x.Write(escaped(c.in)); x.Screen().Hidden != c.hidden {
			t.Errorf("P12.6: %q: hidden %v", c.in, x.Screen().Hidden)
		}
	}
}

func TestBlankOtherHasNoLooks(t *testing.T) {
	x := made(t, 1, 2)
	x.Write(escaped("^[44m^[?1049h"))
	if got := x.Screen().Cells[0]; got != cell.Blank(cell.Attr{}) {
		t.Errorf("P12.6: %v", got)
	}
	x.Write(escaped("ab^[?1047l^[?1047h"))
	if got := x.Screen().Cells[0]; got != cell.Blank(cell.Attr{}) {
		t.Errorf("P12.6: %v", got)
	}
}

func TestTitle(t *testing.T) {
	long := strings.Repeat("\u4E00", 70)
	for in, want := range map[string]string{
		"^]0;hi\x07": "hi", "^]0; ~ \x07": " ~ ", "^]2;a;b^\\": "a;b", "^]1;hi\x07": "", "^]0hi\x07": "", "^]02;hi\x07": "", "^]0;\x07": "", "^]0;a\u0085\u009F\u00A0b\x07": "a\u00A0b", "^]0;a\xFFb\x07": "a\uFFFDb", "^]2;" + long + "\x07": long[:3*api.MaxTitle], "^]0;a\x07^]2;b\x07": "b", "^]0;a\x07^]2;\x07": "", "^]0;a\x07^]4;b\x07": "a", "^]0;a": "",
	} {
		x := made(t, 1, 2)
		x.Write(escaped(in))
		if s := x.Screen(); s.Title != want || !screen.May(s) {
			t.Errorf("P12.7: %q: %q", in, s.Title)
		}
	}
}

func TestResize(t *testing.T) {
	x := made(t, 3, 4)
	x.Write(escaped("abcd^[3;3Hxy^7^[2;3r^[3;4H"))
	for _, c := range [][2]int{{0, 1}, {1, 0}, {61, 1}, {1, 201}} {
		if x.Resize(c[0], c[1]) != api.ErrRange {
			t.Errorf("P12.8: Resize(%v)", c)
		}
	}
	if s := x.Screen(); !slices.Equal(text(s), []string{"abcd", "    ", "  xy"}) || s.Row != 2 || s.Col != 3 {
		t.Errorf("P12.8: an error changes %q", text(s))
	}
	if e := x.Resize(2, 3); e != api.OK {
		t.Error("P12.8:", e)
	}
	if s := x.Screen(); !slices.Equal(text(s), []string{"abc", "   "}) || s.Row != 1 || s.Col != 2 || !screen.May(s) {
		t.Errorf("P12.8: %q, %d, %d", text(s), s.Row, s.Col)
	}
	x.Write(escaped("\n")) // the region is all rows
	if s := x.Screen(); !slices.Equal(text(s), []string{"   ", "   "}) {
		t.Errorf("P12.8: %q", text(s))
	}
	x.Write(escaped("^[1;1H^8z"))
	if s := x.Screen(); !slices.Equal(text(s), []string{"   ", "  z"}) {
		t.Errorf("P12.8: what was saved is held, nothing pending: %q", text(s))
	}
	x.Write(escaped("^[?47h^[1;1Hq^[?47l"))
	x.Resize(2, 20)
	x.Write(escaped("^[1;1H\tt^[?47h"))
	if s := x.Screen(); text(s)[0] != "q                   " {
		t.Errorf("P12.8: the other grid: %q", text(s))
	}
	x.Write(escaped("^[?47l"))
	if s := x.Screen(); text(s)[0] != "        t           " {
		t.Errorf("P12.8: stops: %q", text(s))
	}
	x = made(t, 2, 3)
	x.Write([]byte("abc"))
	x.Resize(2, 3)
	x.Write([]byte("d"))
	if s := x.Screen(); !slices.Equal(text(s), []string{"abd", "   "}) {
		t.Errorf("P12.8: pending behind Resize: %q", text(s))
	}
}

var pieces = []string{
	"a", "b", "\u4E00", "\u0300", "\xE2\x82", "\xFF", "\n", "\r", "\t", "\x08", "\x07", "^", "^[", "^]0;t\x07", "^]2;\u0085x^\\", "^7", "^8", "^c", "^D", "^M", "^H", "^#8", "^[?1049h", "^[?1049l", "^[?47h", "^[?1047l", "^[?6h", "^[?6l", "^[?7l", "^[?7h", "^[4h", "^[4l", "^[?25l", "^[6n", "^[5n", "^[c", "^[2;3r", "^[r", "^[1;44m", "^[m",
}

func script(r *rand.Rand) []byte {
	s := ""
	for range r.Intn(60) {
		if r.Intn(2) == 0 {
			s += pieces[r.Intn(len(pieces))]
		} else {
			s += fmt.Sprintf("^[%d;%d%c", r.Intn(6), r.Intn(9), []byte("ABCDEFGHIJKLMPSTXZ`@adefgr")[r.Intn(26)])
		}
	}
	return escaped(s)
}

func TestInPieces(t *testing.T) {
	r := rand.New(rand.NewSource(1))
	for range 3000 {
		rows, cols := 1+r.Intn(4), 1+r.Intn(7)
		x, y := made(t, rows, cols), made(t, rows, cols)
		for range 3 {
			b := script(r)
			x.Write(b)
			for rest := b; len(rest) > 0; {
				n := 1 + r.Intn(len(rest))
				y.Write(rest[:n])
				rest = rest[n:]
			}
			s := x.Screen()
			if !screen.May(s) || !screen.Same(s, y.Screen()) || string(x.Reply()) != string(y.Reply()) || x.Bells() != y.Bells() {
				t.Fatalf("P12.10: %q: %q, in pieces %q", b, text(s), text(y.Screen()))
			}
			rows, cols = 1+r.Intn(4), 1+r.Intn(7)
			x.Resize(rows, cols)
			y.Resize(rows, cols)
			if s := x.Screen(); !screen.May(s) || s.Rows != rows || s.Cols != cols {
				t.Fatalf("P12.10: behind Resize: %v", s)
			}
		}
	}
}

func TestNothingIsShared(t *testing.T) {
	x := made(t, 1, 3)
	b := []byte("ab\xE2\x82\xAC")
	x.Write(b[:4])
	b[2], b[3] = 'x', 'x'
	s := x.Screen()
	s.Cells[0].Rune = 'z'
	x.Write(b[4:])
	x.Write(escaped("^[5n"))
	first := x.Reply()
	x.Write(escaped("^[6n"))
	_ = append(first, "xyz"...)
	if got := text(x.Screen()); !slices.Equal(got, []string{"ab\u20AC"}) || string(x.Reply()) != "\x1b[1;3R" {
		t.Errorf("P12.9: %q", got)
	}
}

package utf_test

import (
	"bytes"
	"math"
	"math/rand"
	"slices"
	"testing"
	"unicode/utf8"

	"tickertape/api"
	"tickertape/utf"
)

// whole is the signs of b, with what is pending given up.
func whole(b []byte) []rune {
	d := utf.New()
	return append(d.Write(b), d.Flush()...)
}

// signs is what whole tells, worked out by the definition: a sign, or the longest beginning.
func signs(b []byte) []rune {
	var l []rune
	for len(b) > 0 {
		r, n := utf8.DecodeRune(b)
		for r == utf8.RuneError && n < len(b) && !utf8.FullRune(b[:n]) && !utf8.FullRune(b[:n+1]) {
			n++
		}
		l, b = append(l, r), b[n:]
	}
	return l
}

func TestWrite(t *testing.T) {
	const bad = api.Bad
	for _, c := range []struct {
		b       string
		want    []rune
		pending int
	}{
		{"", nil, 0}, {"A", []rune{'A'}, 0}, {"\x00\x7F", []rune{0, 0x7F}, 0}, {"\u00E9", []rune{0xE9}, 0}, {"\u4E00x", []rune{0x4E00, 'x'}, 0}, {"\U0001F600", []rune{0x1F600}, 0},
		{"\uFFFD", []rune{bad}, 0}, {"\xC2\x80", []rune{0x80}, 0}, {"\xDF\xBF", []rune{0x7FF}, 0}, {"\xE0\xA0\x80", []rune{0x800}, 0}, {"\xED\x9F\xBF", []rune{0xD7FF}, 0}, {"\xEE\x80\x80", []rune{0xE000}, 0},
		{"\xEF\xBF\xBF", []rune{0xFFFF}, 0}, {"\xF0\x90\x80\x80", []rune{0x10000}, 0}, {"\xF4\x8F\xBF\xBF", []rune{0x10FFFF}, 0},
		{"\xE2\x82A", []rune{bad, 'A'}, 0}, {"\xF0\x80", []rune{bad, bad}, 0}, {"\x80", []rune{bad}, 0}, {"\xBF\xBF", []rune{bad, bad}, 0}, {"\xC0\x80", []rune{bad, bad}, 0}, {"\xC1\xBF", []rune{bad, bad}, 0},
		{"\xE0\x9F\xBF", []rune{bad, bad, bad}, 0}, {"\xED\xA0\x80", []rune{bad, bad, bad}, 0}, {"\xF0\x8F\xBF\xBF", []rune{bad, bad, bad, bad}, 0}, {"\xF4\x90\x80\x80", []rune{bad, bad, bad, bad}, 0},
		{"\xF5\x80", []rune{bad, bad}, 0}, {"\xFF\xFE", []rune{bad, bad}, 0}, {"\xF1\x80\x80A", []rune{bad, 'A'}, 0}, {"\xF1\x80\xC2\xA9", []rune{bad, 0xA9}, 0}, {"\xE2\xE2\x82\xAC", []rune{bad, 0x20AC}, 0},
		{"\xC3\xC3\xA9", []rune{bad, 0xE9}, 0}, {"\xE1\x80\xE1\x80", []rune{bad}, 2},
		{"\xC2", nil, 1}, {"\xE2\x82", nil, 2}, {"\xF0\x9F\x98", nil, 3}, {"a\xF4\x8F", []rune{'a'}, 2}, {"\xE0", nil, 1}, {"\xED\x9F", nil, 2},
	} {
		d := utf.New()
		if got := d.Write([]byte(c.b)); !slices.Equal(got, c.want) || d.Pending() != c.pending {
			t.Errorf("P3.1: Write(% X) is %X, %d pending", c.b, got, d.Pending())
		}
		flushed := d.Flush()
		if want := c.pending > 0; (len(flushed) == 1 && flushed[0] == bad) != want || !want && len(flushed) > 0 {
			t.Errorf("P3.1: Flush behind % X is %X", c.b, flushed)
		}
		if d.Pending() != 0 || len(d.Flush()) != 0 {
			t.Errorf("P3.1: behind Flush of % X %d are pending", c.b, d.Pending())
		}
		if got := d.Write([]byte("\x80z")); !slices.Equal(got, []rune{bad, 'z'}) {
			t.Errorf("P3.1: Write behind Flush is %X", got)
		}
	}
}

func TestEachTwoBytes(t *testing.T) {
	for first := range 256 {
		for second := range 256 {
			for _, tail := range []string{"", "\x80", "\xBF\x80", "\x80\x7F", "\xC0\x80", "\x7F\x80\x80", "\xBF\xC0"} {
				b := append([]byte{byte(first), byte(second)}, tail...)
				if got := whole(b); !slices.Equal(got, signs(b)) {
					t.Fatalf("P3.1: % X: %X, want %X", b, got, signs(b))
				}
			}
		}
	}
}

func TestPiecesDoNotCount(t *testing.T) {
	r := rand.New(rand.NewSource(1))
	leads := []byte{0x41, 0x80, 0x8F, 0x90, 0x9F, 0xA0, 0xBF, 0xC2, 0xE0, 0xE2, 0xED, 0xEF, 0xF0, 0xF1, 0xF4, 0xF5}
	for range 3000 {
		b := make([]byte, r.Intn(12))
		for i := range b {
			b[i] = leads[r.Intn(len(leads))]
		}
		at := whole(b)
		if !slices.Equal(at, signs(b)) {
			t.Fatalf("P3.1: % X: %X, want %X", b, at, signs(b))
		}
		d := utf.New()
		var l []rune
		for rest := b; len(rest) > 0; {
			n := 1 + r.Intn(len(rest))
			l = append(l, d.Write(rest[:n])...)
			rest = rest[n:]
		}
		if l = append(l, d.Flush()...); !slices.Equal(l, at) {
			t.Fatalf("P3.4: % X in pieces: %X, at once %X", b, l, at)
		}
	}
}

func TestEncode(t *testing.T) {
	for want, l := range map[string][]rune{
		"": nil, "A\x00": {'A', 0}, "\x7F\u0080\u07FF\u0800\uFFFF": {0x7F, 0x80, 0x7FF, 0x800, 0xFFFF}, "\U00010000\U0010FFFF": {0x10000, 0x10FFFF}, "\uD7FF\uE000": {0xD7FF, 0xE000},
		"\uFFFD\uFFFD\uFFFD\uFFFD\uFFFDz": {-1, 0xD800, 0xDFFF, 0x110000, math.MinInt32, 'z'}, "\uFFFD": {math.MaxInt32},
	} {
		if got := utf.Encode(l); string(got) != want {
			t.Errorf("P3.2: Encode(%X) is % X", l, got)
		}
	}
	for r, want := range map[rune]int{0: 1, 0x7F: 1, 0x80: 2, 0x7FF: 2, 0x800: 3, 0xD7FF: 3, 0xD800: 3, 0xDFFF: 3, 0xFFFF: 3, 0x10000: 4, 0x10FFFF: 4, 0x110000: 3, -1: 3, math.MinInt32: 3, math.MaxInt32: 3} {
		if got := utf.Size(r); got != want || got != len(utf.Encode([]rune{r})) {
			t.Errorf("P3.2: Size(%X) is %d", r, got)
		}
	}
}

func TestWhatWasEncodedComesBack(t *testing.T) {
	for r := rune(0); r <= 0x10FFFF; r += 7 {
		if r >= 0xD800 && r <= 0xDFFF {
			continue
		}
		b := utf.Encode([]rune{r, 'x', r})
		if got := whole(b); !slices.Equal(got, []rune{r, 'x', r}) || string(b) != string([]rune{r, 'x', r}) {
			t.Fatalf("P3.4: %X comes back as %X", r, got)
		}
	}
}

func TestNothingIsShared(t *testing.T) {
	d := utf.New()
	b := []byte("ab\xE2\x82\xAC\x82")
	first := d.Write(b[:4])
	b[2], b[3] = 'x', 'x'
	second := d.Write(b[4:5])
	if !slices.Equal(second, []rune{0x20AC}) || !bytes.Equal(b, []byte("abxx\xAC\x82")) {
		t.Errorf("P3.3: %X, % X", second, b)
	}
	_ = append(first, 1, 2, 3)
	first[0] = 9
	if !slices.Equal(second, []rune{0x20AC}) || !slices.Equal(d.Write([]byte("a")), []rune{'a'}) {
		t.Error("P3.3: lists share memory")
	}
}

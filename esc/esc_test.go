package esc_test

import (
	"fmt"
	"math/rand"
	"slices"
	"strings"
	"testing"

	"tickertape/api"
	"tickertape/esc"
)

func feed(s string) ([]esc.Event, int) {
	p := esc.New()
	l := p.Feed([]rune(s)...)
	return l, p.State()
}

func printed(s string) []esc.Event {
	var l []esc.Event
	for _, r := range s {
		l = append(l, esc.Event{Kind: esc.Print, Rune: r})
	}
	return l
}

func exec(r rune) esc.Event { return esc.Event{Kind: esc.Exec, Rune: r} }

func plain(final rune) esc.Event { return esc.Event{Kind: esc.Esc, Final: final} }

func csi(final rune, params ...int) esc.Event {
	return esc.Event{Kind: esc.Csi, Final: final, Params: params}
}

func osc(s string) esc.Event { return esc.Event{Kind: esc.Osc, Text: s} }

type given struct {
	in    string
	want  []esc.Event
	state int
}

func check(t *testing.T, l []given) {
	t.Helper()
	for _, c := range l {
		got, state := feed(c.in)
		if !esc.Same(got, c.want) || state != c.state {
			t.Errorf("P8.1, P8.2: %q: %+v, state %d; want %+v, state %d", c.in, got, state, c.want, c.state)
		}
	}
}

func list(l ...esc.Event) []esc.Event { return l }

func TestConstants(t *testing.T) {
	kinds := []int{esc.Print, esc.Exec, esc.Esc, esc.Csi, esc.Osc}
	states := []int{esc.Ground, esc.Escape, esc.Between, esc.Control, esc.Command, esc.Text, esc.Ending, esc.Ending2}
	if !slices.Equal(kinds, []int{1, 2, 3, 4, 5}) || !slices.Equal(states, []int{0, 1, 2, 3, 4, 5, 6, 7}) || esc.New().State() != esc.Ground {
		t.Error("P8.1:", kinds, states)
	}
}

func TestGround(t *testing.T) {
	check(t, []given{
		{"", nil, esc.Ground}, {"aZ ~", printed("aZ ~"), esc.Ground}, {"\u00A0\u4E00\U0010FFFF", printed("\u00A0\u4E00\U0010FFFF"), esc.Ground},
		{"\x00\x07\x17\x19\x1C\x1F", list(exec(0), exec(7), exec(0x17), exec(0x19), exec(0x1C), exec(0x1F)), esc.Ground},
		{"\x7F\u0080\u009B\u009F", nil, esc.Ground}, {"\x18\x1A", nil, esc.Ground}, {"\x1B", nil, esc.Escape},
	})
}

func TestEscape(t *testing.T) {
	check(t, []given{
		{"\x1BM", list(plain('M')), esc.Ground}, {"\x1B0", list(plain('0')), esc.Ground}, {"\x1B~", list(plain('~')), esc.Ground}, {"\x1B\\a", append(list(plain('\\')), printed("a")...), esc.Ground},
		{"\x1B\x1F", list(exec(0x1F)), esc.Escape}, {"\x1B\x07", list(exec(7)), esc.Escape}, {"\x1B\x07c", list(exec(7), plain('c')), esc.Ground}, {"\x1B\x7F", nil, esc.Escape}, {"\x1B\x7Fc", list(plain('c')), esc.Ground},
		{"\x1B\u0080", nil, esc.Ground}, {"\x1B\u4E00a", printed("a"), esc.Ground}, {"\x1B\x1B", nil, esc.Escape}, {"\x1B\x18", nil, esc.Ground}, {"\x1B\x1A", nil, esc.Ground},
		{"\x1B[", nil, esc.Control}, {"\x1B]", nil, esc.Command}, {"\x1BP", nil, esc.Text}, {"\x1BX", nil, esc.Text}, {"\x1B^", nil, esc.Text}, {"\x1B_", nil, esc.Text}, {"\x1B#", nil, esc.Between}, {"\x1B ", nil, esc.Between}, {"\x1B/", nil, esc.Between},
	})
}

func TestBetween(t *testing.T) {
	inter := func(i, f rune) esc.Event { return esc.Event{Kind: esc.Esc, Inter: i, Final: f} }
	check(t, []given{
		{"\x1B#8", list(inter('#', '8')), esc.Ground}, {"\x1B ~", list(inter(' ', '~')), esc.Ground}, {"\x1B(0a", append(list(inter('(', '0')), printed("a")...), esc.Ground},
		{"\x1B(\x078", list(exec(7), inter('(', '8')), esc.Ground}, {"\x1B(\x7F8", list(inter('(', '8')), esc.Ground}, {"\x1B()8a", printed("a"), esc.Ground}, {"\x1B((", nil, esc.Between}, {"\x1B()8\x1B(8", list(inter('(', '8')), esc.Ground},
		{"\x1B(\u0080a", printed("a"), esc.Ground}, {"\x1B(\x1F8", list(exec(0x1F), inter('(', '8')), esc.Ground}, {"\x1B( 8", nil, esc.Ground}, {"\x1B(/8", nil, esc.Ground}, {"\x1B(0", list(inter('(', '0')), esc.Ground}, {"\x1B(\x18a", printed("a"), esc.Ground}, {"\x1B(\x1B", nil, esc.Escape}, {"\x1B([", list(inter('(', '[')), esc.Ground},
	})
}

func TestControl(t *testing.T) {
	private := func(p rune, e esc.Event) esc.Event { e.Private = p; return e }
	inter := func(i rune, e esc.Event) esc.Event { e.Inter = i; return e }
	check(t, []given{
		{"\x1B[m", list(csi('m')), esc.Ground}, {"\x1B[1;H", list(csi('H', 1, -1)), esc.Ground}, {"\x1B[;H", list(csi('H', -1, -1)), esc.Ground}, {"\x1B[1:2;3@", list(csi('@', 1, 2, 3)), esc.Ground}, {"\x1B[007~", list(csi('~', 7)), esc.Ground},
		{"\x1B[0m", list(csi('m', 0)), esc.Ground}, {"\x1B[9999m", list(csi('m', 9999)), esc.Ground}, {"\x1B[10000m", list(csi('m', 9999)), esc.Ground}, {"\x1B[123456789012345678901234567890;5m", list(csi('m', 9999, 5)), esc.Ground},
		{"\x1B[?25h", list(private('?', csi('h', 25))), esc.Ground}, {"\x1B[>c", list(private('>', csi('c'))), esc.Ground}, {"\x1B[<1m", list(private('<', csi('m', 1))), esc.Ground}, {"\x1B[=1m", list(private('=', csi('m', 1))), esc.Ground},
		{"\x1B[1?h", nil, esc.Ground}, {"\x1B[??h", nil, esc.Ground}, {"\x1B[;?h", nil, esc.Ground}, {"\x1B[ ?h", nil, esc.Ground}, {"\x1B[?>h", nil, esc.Ground},
		{"\x1B[ q", list(inter(' ', csi('q'))), esc.Ground}, {"\x1B[1!p", list(inter('!', csi('p', 1))), esc.Ground}, {"\x1B[?1$p", list(private('?', inter('$', csi('p', 1)))), esc.Ground}, {"\x1B[!!p", nil, esc.Ground}, {"\x1B[!1p", nil, esc.Ground}, {"\x1B[!;p", nil, esc.Ground}, {"\x1B[!:p", nil, esc.Ground},
		{"\x1B[1\x0D2m", list(exec(13), csi('m', 12)), esc.Ground}, {"\x1B[1\x1Fm", list(exec(0x1F), csi('m', 1)), esc.Ground}, {"\x1B[/m", list(inter('/', csi('m'))), esc.Ground}, {"\x1B[!@", list(inter('!', csi('@'))), esc.Ground}, {"\x1B[1\x7F2m", list(csi('m', 12)), esc.Ground}, {"\x1B[\x07?1h", list(exec(7), private('?', csi('h', 1))), esc.Ground}, {"\x1B[1\u0080m", printed("m"), esc.Ground}, {"\x1B[1\x18m", printed("m"), esc.Ground}, {"\x1B[1\x1B[2m", list(csi('m', 2)), esc.Ground},
		{"\x1B[1?", nil, esc.Control}, {"\x1B[1?h\x1B[1h", list(csi('h', 1)), esc.Ground}, {"\x1B[1;2H\x1B[H\x1B[?h\x1B[h", list(csi('H', 1, 2), csi('H'), private('?', csi('h')), csi('h')), esc.Ground},
	})
}

func TestParamsBeyondAreNotTold(t *testing.T) {
	want := []int{1, 2, 3, 4, 5, 6, 7, 8, 9, 10, 11, 12, 13, 14, 15, 16}
	full := "1;2;3;4;5;6;7;8;9;10;11;12;13;14;15;16"
	for _, tail := range []string{"", ";", ";17", ";17;18", ";;;;;", ":99999"} {
		got, state := feed("\x1B[" + full + tail + "m")
		if !esc.Same(got, list(csi('m', want...))) || state != esc.Ground {
			t.Errorf("P8.2: %q: %v", tail, got)
		}
	}
	got, _ := feed("\x1B[" + strings.Repeat(";", 40) + "5m")
	if len(got) != 1 || len(got[0].Params) != api.MaxParams || slices.Max(got[0].Params) != -1 {
		t.Errorf("P8.2: %v", got)
	}
}

func TestCommand(t *testing.T) {
	long := strings.Repeat("\u4E00", api.MaxOsc)
	check(t, []given{
		{"\x1B]0;hi\x07a", append(list(osc("0;hi")), printed("a")...), esc.Ground}, {"\x1B]2;x\x1B\\a", append(list(osc("2;x")), printed("a")...), esc.Ground}, {"\x1B]\x07", list(osc("")), esc.Ground}, {"\x1B]a\x01\x0D\x1F\x7Fb\x07", list(osc("ab")), esc.Ground},
		{"\x1B]a b\x07", list(osc("a b")), esc.Ground}, {"\x1B]\u0080\u009F\u00E9\x07", list(osc("\u0080\u009F\u00E9")), esc.Ground}, {"\x1B]" + long + "\x07", list(osc(long)), esc.Ground}, {"\x1B]" + long + "xyz\x07", list(osc(long)), esc.Ground}, {"\x1B]" + long + "x\x1B\\", list(osc(long)), esc.Ground},
		{"\x1B]a\x18b\x07", append(printed("b"), exec(7)), esc.Ground}, {"\x1B]a\x1Ab", printed("b"), esc.Ground}, {"\x1B]a\x1B", nil, esc.Ending}, {"\x1B]a\x1Bc", list(plain('c')), esc.Ground}, {"\x1B]a\x1B[1m", list(csi('m', 1)), esc.Ground},
		{"\x1B]a\x1B]b\x07", list(osc("b")), esc.Ground}, {"\x1B]a\x1B\x1B", nil, esc.Escape}, {"\x1B]a\x1B\x1B\\", list(plain('\\')), esc.Ground}, {"\x1B]a\x1B\x18\\", printed("\\"), esc.Ground}, {"\x1B]a\x07\x1B]\x07", list(osc("a"), osc("")), esc.Ground}, {"\x1B]a\x1BP", nil, esc.Text}, {"\x1B]a\x1B(", nil, esc.Between},
	})
}

func TestText(t *testing.T) {
	check(t, []given{
		{"\x1BPabc\x07\x00\x7F\u0080", nil, esc.Text}, {"\x1BXabc\x1B\\d", printed("d"), esc.Ground}, {"\x1B^a\x18d", printed("d"), esc.Ground}, {"\x1B_a\x1Ad", printed("d"), esc.Ground}, {"\x1BPa\x1B", nil, esc.Ending2}, {"\x1BPa\x1B\x1B", nil, esc.Escape},
		{"\x1BPa\x1Bc", list(plain('c')), esc.Ground}, {"\x1BPa\x1B[2J", list(csi('J', 2)), esc.Ground}, {"\x1BPa\x1B]t\x07", list(osc("t")), esc.Ground}, {"\x1BPa\x1B\x07M", list(exec(7), plain('M')), esc.Ground},
	})
}

func TestSame(t *testing.T) {
	a := func() []esc.Event {
		return list(esc.Event{Kind: esc.Csi, Rune: 'a', Params: []int{1, 2}, Private: '?', Inter: '!', Final: 'm', Text: "x"}, exec(7))
	}
	if !esc.Same(a(), a()) || !esc.Same(nil, list()) || esc.Same(a(), a()[:1]) || esc.Same(nil, a()) {
		t.Error("P8.3: Same")
	}
	for i, change := range []func(e *esc.Event){
		func(e *esc.Event) { e.Kind++ }, func(e *esc.Event) { e.Rune++ }, func(e *esc.Event) { e.Params[1]++ }, func(e *esc.Event) { e.Params = e.Params[:1] },
		func(e *esc.Event) { e.Private++ }, func(e *esc.Event) { e.Inter++ }, func(e *esc.Event) { e.Final++ }, func(e *esc.Event) { e.Text = "" },
	} {
		b := a()
		change(&b[0])
		if esc.Same(a(), b) || esc.Same(b, a()) {
			t.Errorf("P8.3: Same of change %d", i)
		}
	}
	b := a()
	b[0].Params = []int{}
	c := a()
	c[0].Params = nil
	if !esc.Same(b, c) {
		t.Error("P0.4: nil and the empty list differ")
	}
}

func TestSignBySign(t *testing.T) {
	signs := []rune("\x1B\x1B\x1B[[]P;:019?>!#mH\\\x07\x18\x7Fa\u0085\u4E00")
	r := rand.New(rand.NewSource(1))
	for range 3000 {
		l := make([]rune, r.Intn(40))
		for i := range l {
			l[i] = signs[r.Intn(len(signs))]
		}
		p, q := esc.New(), esc.New()
		var one []esc.Event
		for _, s := range l {
			one = append(one, q.Feed(s)...)
		}
		if all := p.Feed(l...); !esc.Same(all, one) || p.State() != q.State() {
			t.Fatalf("P8.4: %q: %s at once, %s sign by sign", string(l), fmt.Sprint(all), fmt.Sprint(one))
		}
		if q.Feed(0x18); q.State() != esc.Ground || !esc.Same(q.Feed('a'), printed("a")) {
			t.Fatalf("P8.4: %q, then 18: state %d", string(l), q.State())
		}
	}
}

func TestNothingIsShared(t *testing.T) {
	p := esc.New()
	in := []rune("\x1B[1;2")
	p.Feed(in...)
	in[2] = '9'
	got := p.Feed([]rune(";3m\x1B[4m")...)
	if !esc.Same(got, list(csi('m', 1, 2, 3), csi('m', 4))) {
		t.Fatal("P8.3:", got)
	}
	_ = append(got[0].Params, 7, 7, 7, 7)
	got[0].Params[0] = 9
	if !esc.Same(got[1:], list(csi('m', 4))) || !esc.Same(p.Feed([]rune("\x1B[5;6m")...), list(csi('m', 5, 6))) {
		t.Error("P8.3: Params are shared")
	}
}

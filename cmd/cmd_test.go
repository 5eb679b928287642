package cmd_test

import (
	"bytes"
	"math"
	"math/rand"
	"testing"

	"tickertape/api"
	"tickertape/cmd"
	"tickertape/deck"
	"tickertape/rate"
)

var (
	minusZero = math.Copysign(0, -1)
	oddNaN    = math.Float64frombits(0xFFF0000000000001)
)

// some has commands with their bytes and their words.
var some = []struct {
	c     cmd.Command
	bytes string
	words string
}{
	{cmd.Command{Kind: cmd.GoLive}, "\x01\x00\x00\x00\x00\x00\x00\x00\x00", "live"},
	{cmd.Command{Kind: cmd.GoPause}, "\x02\x00\x00\x00\x00\x00\x00\x00\x00", "pause"},
	{cmd.Command{Kind: cmd.GoPlay}, "\x03\x00\x00\x00\x00\x00\x00\x00\x00", "play"},
	{cmd.Command{Kind: cmd.GoSeek}, "\x04\x00\x00\x00\x00\x00\x00\x00\x00", "seek 0"},
	{cmd.Command{Kind: cmd.GoSeek, Time: 0x0102030405060708}, "\x04\x01\x02\x03\x04\x05\x06\x07\x08", "seek 72623859790382856"},
	{cmd.Command{Kind: cmd.GoSeek, Time: api.MaxTick}, "\x04\x40\x00\x00\x00\x00\x00\x00\x00", "seek 4611686018427387904"},
	{cmd.Command{Kind: cmd.GoSpeed}, "\x05\x00\x00\x00\x00\x00\x00\x00\x00", "speed 0000000000000000"},
	{cmd.Command{Kind: cmd.GoSpeed, Speed: 1.5}, "\x05\x3F\xF8\x00\x00\x00\x00\x00\x00", "speed 3ff8000000000000"},
	{cmd.Command{Kind: cmd.GoSpeed, Speed: minusZero}, "\x05\x80\x00\x00\x00\x00\x00\x00\x00", "speed 8000000000000000"},
	{cmd.Command{Kind: cmd.GoSpeed, Speed: -1}, "\x05\xBF\xF0\x00\x00\x00\x00\x00\x00", "speed bff0000000000000"},
	{cmd.Command{Kind: cmd.GoSpeed, Speed: math.Inf(1)}, "\x05\x7F\xF0\x00\x00\x00\x00\x00\x00", "speed 7ff0000000000000"},
	{cmd.Command{Kind: cmd.GoSpeed, Speed: math.Inf(-1)}, "\x05\xFF\xF0\x00\x00\x00\x00\x00\x00", "speed fff0000000000000"},
	{cmd.Command{Kind: cmd.GoSpeed, Speed: math.NaN()}, "\x05\x7F\xF8\x00\x00\x00\x00\x00\x00", "speed 7ff8000000000000"},
	{cmd.Command{Kind: cmd.GoSpeed, Speed: oddNaN}, "\x05\x7F\xF8\x00\x00\x00\x00\x00\x00", "speed 7ff8000000000000"},
	{cmd.Command{Kind: cmd.GoSpeed, Speed: math.SmallestNonzeroFloat64}, "\x05\x00\x00\x00\x00\x00\x00\x00\x01", "speed 0000000000000001"},
}

func TestEncodeAndPrint(t *testing.T) {
	for _, x := range some {
		b, e := cmd.Encode(x.c)
		if !cmd.May(x.c) || string(b) != x.bytes || e != api.OK {
			t.Errorf("P24.1: %v: % X, %d", x.c, b, e)
		}
		if c, e := cmd.Decode([]byte(x.bytes)); !cmd.Same(c, x.c) || e != api.OK {
			t.Errorf("P24.1: Decode(% X) is %v, %d", x.bytes, c, e)
		}
		if s := cmd.Print(x.c); s != x.words {
			t.Errorf("P24.2: %v: %q", x.c, s)
		}
		if c, e := cmd.Parse(x.words); !cmd.Same(c, x.c) || e != api.OK {
			t.Errorf("P24.2: Parse(%q) is %v, %d", x.words, c, e)
		}
	}
}

func TestMay(t *testing.T) {
	for i, c := range []cmd.Command{
		{}, {Kind: -1}, {Kind: 6}, {Kind: 257}, {Kind: cmd.GoLive, Time: 1}, {Kind: cmd.GoPause, Time: 1}, {Kind: cmd.GoPlay, Time: 1}, {Kind: cmd.GoSpeed, Time: 1, Speed: 1}, {Kind: cmd.GoSeek, Time: api.MaxTick + 1}, {Kind: cmd.GoSeek, Time: math.MaxUint64},
		{Kind: cmd.GoLive, Speed: 1}, {Kind: cmd.GoPause, Speed: minusZero}, {Kind: cmd.GoPlay, Speed: math.NaN()}, {Kind: cmd.GoSeek, Speed: minusZero}, {Kind: cmd.GoSeek, Time: 1, Speed: 2}, {Time: 5}, {Speed: 5},
	} {
		b, e := cmd.Encode(c)
		if cmd.May(c) || b != nil || e != api.ErrRange || cmd.Print(c) != "" {
			t.Errorf("P24.1: case %d: % X, %d, %q", i, b, e, cmd.Print(c))
		}
		d := deck.New()
		if e := cmd.Do(d, c, 5, 0, 9); e != api.ErrForm || d.Mode() != deck.OnAir || d.Pos() != 0 {
			t.Errorf("P24.3: case %d: %d", i, e)
		}
	}
}

func TestSame(t *testing.T) {
	a := cmd.Command{Kind: 4, Time: 5, Speed: 6}
	if !cmd.Same(a, a) || cmd.Same(a, cmd.Command{Kind: 5, Time: 5, Speed: 6}) || cmd.Same(a, cmd.Command{Kind: 4, Time: 6, Speed: 6}) || cmd.Same(a, cmd.Command{Kind: 4, Time: 5, Speed: 7}) {
		t.Error("P24.1: Same")
	}
	if !cmd.Same(cmd.Command{Speed: math.NaN()}, cmd.Command{Speed: oddNaN}) || cmd.Same(cmd.Command{}, cmd.Command{Speed: minusZero}) {
		t.Error("P24.1: Same of the edges")
	}
}

func TestDecodeRefuses(t *testing.T) {
	for _, s := range []string{
		"", "\x01", "\x01\x00\x00\x00\x00\x00\x00\x00", "\x01\x00\x00\x00\x00\x00\x00\x00\x00\x00", "\x00\x00\x00\x00\x00\x00\x00\x00\x00", "\x06\x00\x00\x00\x00\x00\x00\x00\x00", "\xFF\x00\x00\x00\x00\x00\x00\x00\x00", "\x01\x00\x00\x00\x00\x00\x00\x00\x01", "\x02\x80\x00\x00\x00\x00\x00\x00\x00", "\x03\x00\x00\x00\x00\x00\x00\x01\x00",
		"\x04\x40\x00\x00\x00\x00\x00\x00\x01", "\x04\xFF\xFF\xFF\xFF\xFF\xFF\xFF\xFF", "\x05\x7F\xF8\x00\x00\x00\x00\x00\x01", "\x05\x7F\xF0\x00\x00\x00\x00\x00\x01", "\x05\xFF\xF8\x00\x00\x00\x00\x00\x00", "\x05\xFF\xFF\xFF\xFF\xFF\xFF\xFF\xFF",
	} {
		if c, e := cmd.Decode([]byte(s)); c != (cmd.Command{}) || e != api.ErrForm {
			t.Errorf("P24.1: Decode(% X) is %v, %d", s, c, e)
		}
	}
}

func TestParse(t *testing.T) {
	for s, want := range map[string]float64{
		"3/2": 1.5, "0/1": 0, "0/9999": 0, "1/3": 1.0 / 3, "9999/1": 9999, "9999/9999": 1, "2/4": 0.5, "1/9999": 1.0 / 9999, "7/10": 0.7, "nan": math.NaN(), "inf": math.Inf(1), "-inf": math.Inf(-1), "-0": minusZero, "3fb999999999999a": 0.1,
	} {
		if c, e := cmd.Parse("speed " + s); !cmd.Same(c, cmd.Command{Kind: cmd.GoSpeed, Speed: want}) || e != api.OK {
			t.Errorf("P24.2: %q: %v, %d", s, c, e)
		}
	}
	if c, _ := cmd.Parse("speed nan"); math.Float64bits(c.Speed) != 0x7FF8000000000000 {
		t.Errorf("P24.2: nan is %X", math.Float64bits(c.Speed))
	}
	for s, want := range map[string]api.Errno{
		"": api.ErrForm, "Live": api.ErrForm, "live ": api.ErrForm, " live": api.ErrForm, "stop": api.ErrForm, "seek": api.ErrForm, "seek ": api.ErrForm, "seek 01": api.ErrForm, "seek +1": api.ErrForm, "seek -1": api.ErrForm, "seek 1_0": api.ErrForm, "seek 1 ": api.ErrForm, "seek  1": api.ErrForm, "seek 0x1": api.ErrForm, "seek 4611686018427387905": api.ErrForm, "seek 99999999999999999999999": api.ErrForm,
		"speed": api.ErrForm, "speed ": api.ErrForm, "speed 1": api.ErrForm, "speed 1.5": api.ErrForm, "speed 3FF8000000000000": api.ErrForm, "speed 3ff800000000000": api.ErrForm, "speed 03ff8000000000000": api.ErrForm, "speed 7ff8000000000001": api.ErrForm, "speed fff8000000000000": api.ErrForm, "speed 3ff800000000000g": api.ErrForm, "speed +ff8000000000000": api.ErrForm, "speed 3ff8_00000000000": api.ErrForm,
		"speed 1/0": api.ErrRange, "speed 0/0": api.ErrRange, "speed 9999/0": api.ErrRange, "speed /0": api.ErrForm, "speed 1/": api.ErrForm, "speed /": api.ErrForm, "speed 01/2": api.ErrForm, "speed 1/02": api.ErrForm, "speed 1/00": api.ErrForm, "speed 10000/1": api.ErrForm, "speed 1/10000": api.ErrForm, "speed -1/2": api.ErrForm, "speed 1/-2": api.ErrForm, "speed +1/2": api.ErrForm, "speed 1/2/3": api.ErrForm, "speed 1/2 ": api.ErrForm, "speed -0/1": api.ErrForm, "speed 1 /2": api.ErrForm,
		"speed NaN": api.ErrForm, "speed Inf": api.ErrForm, "speed +inf": api.ErrForm, "speed 0": api.ErrForm, "speed +0": api.ErrForm, "speed -nan": api.ErrForm, "speed 1/\xFF": api.ErrForm,
	} {
		if c, e := cmd.Parse(s); c != (cmd.Command{}) || e != want {
			t.Errorf("P24.2: Parse(%q) is %v, %d; want %d", s, c, e, want)
		}
	}
}

func TestBackAndForth(t *testing.T) {
	r := rand.New(rand.NewSource(1))
	for range 3000 {
		c := cmd.Command{Kind: cmd.GoSpeed, Speed: math.Float64frombits(r.Uint64() << r.Intn(64))}
		if r.Intn(2) == 0 {
			c = cmd.Command{Kind: cmd.GoSeek, Time: r.Uint64() >> 2 >> r.Intn(62)}
		}
		b, e := cmd.Encode(c)
		got, e2 := cmd.Decode(b)
		again, e3 := cmd.Parse(cmd.Print(c))
		if e != api.OK || e2 != api.OK || e3 != api.OK || !cmd.Same(got, c) || !cmd.Same(again, c) || rate.Bits(got.Speed) != math.Float64bits(got.Speed) {
			t.Fatalf("P24.5: %v comes back as %v, %v", c, got, again)
		}
		b[r.Intn(9)] ^= byte(1 << r.Intn(8))
		if got, e := cmd.Decode(b); e == api.OK {
			if again, e := cmd.Encode(got); e != api.OK || !bytes.Equal(again, b) {
				t.Fatalf("P24.1: % X is read as %v", b, got)
			}
		}
	}
}

func TestDo(t *testing.T) {
	d := deck.New()
	for i, x := range []struct {
		c           cmd.Command
		now, lo, hi uint64
		e           api.Errno
		mode        int
		pos         uint64
	}{
		{cmd.Command{Kind: cmd.GoPlay}, 1, 0, 9, api.ErrState, deck.OnAir, 0}, {cmd.Command{Kind: cmd.GoPause}, 1, 0, 9, api.OK, deck.Paused, 9}, {cmd.Command{Kind: cmd.GoSeek, Time: 4}, 2, 1, 9, api.OK, deck.Paused, 4}, {cmd.Command{Kind: cmd.GoSeek}, 2, 1, 9, api.ErrExpired, deck.Paused, 4},
		{cmd.Command{Kind: cmd.GoSpeed, Speed: 0.5}, 2, 1, 9, api.OK, deck.Paused, 4}, {cmd.Command{Kind: cmd.GoSpeed, Speed: math.NaN()}, 2, 1, 9, api.ErrNaN, deck.Paused, 4}, {cmd.Command{Kind: cmd.GoSpeed, Speed: minusZero}, 2, 1, 9, api.ErrSign, deck.Paused, 4}, {cmd.Command{Kind: cmd.GoSpeed, Speed: math.Inf(1)}, 2, 1, 9, api.ErrRange, deck.Paused, 4},
		{cmd.Command{Kind: cmd.GoPlay}, 3, 6, 9, api.OK, deck.Playing, 6}, {cmd.Command{Kind: cmd.GoPause}, 7, 0, 9, api.OK, deck.Paused, 8}, {cmd.Command{Kind: cmd.GoPause}, 7, 9, 0, api.ErrRange, deck.Paused, 8}, {cmd.Command{Kind: cmd.GoPlay}, 7, 0, api.MaxTick + 1, api.ErrRange, deck.Paused, 8}, {cmd.Command{Kind: cmd.GoLive}, 7, 9, 0, api.OK, deck.OnAir, 8},
	} {
		if e := cmd.Do(d, x.c, x.now, x.lo, x.hi); e != x.e || d.Mode() != x.mode || d.Pos() != x.pos {
			t.Errorf("P24.3: case %d: %d, mode %d at %d", i, e, d.Mode(), d.Pos())
		}
	}
	if d.Rate() != (rate.Speed{Num: 1, Den: 2}) {
		t.Errorf("P24.3: %v", d.Rate())
	}
}

func TestNothingIsShared(t *testing.T) {
	b := []byte("\x04\x00\x00\x00\x00\x00\x00\x00\x07behind")
	if c, e := cmd.Decode(b[:9]); c != (cmd.Command{Kind: cmd.GoSeek, Time: 7}) || e != api.OK {
		t.Errorf("P24.4: %v, %d", c, e)
	}
	c := cmd.Command{Kind: cmd.GoSeek, Time: 7}
	first, _ := cmd.Encode(c)
	_ = append(first[:0], 9, 9)
	if again, _ := cmd.Encode(c); !bytes.Equal(again, b[:9]) {
		t.Errorf("P24.4: % X", again)
	}
}

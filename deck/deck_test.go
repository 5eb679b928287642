package deck_test

import (
	"math"
	"math/rand"
	"testing"

	"tickertape/api"
	"tickertape/deck"
	"tickertape/rate"
)

const most = api.MaxTick

var minusZero = math.Copysign(0, -1)

func is(t *testing.T, p string, d *deck.Deck, mode int, pos uint64) {
	t.Helper()
	if d.Mode() != mode || d.Pos() != pos {
		t.Errorf("%s: mode %d at %d; want mode %d at %d", p, d.Mode(), d.Pos(), mode, pos)
	}
}

func ok(t *testing.T, p string, e api.Errno) {
	t.Helper()
	if e != api.OK {
		t.Errorf("%s: %d", p, e)
	}
}

// paused is Paused at 50 of 0 to 100, since it was 10.
func paused(t *testing.T) *deck.Deck {
	t.Helper()
	d := deck.New()
	ok(t, "P23.2", d.Seek(10, 0, 100, 50))
	return d
}

// playing plays from 50 of 0 to 100 on, since it was 10.
func playing(t *testing.T) *deck.Deck {
	t.Helper()
	d := paused(t)
	ok(t, "P23.2", d.Play(10, 0, 100))
	return d
}

func TestNew(t *testing.T) {
	d := deck.New()
	is(t, "P23.1", d, deck.OnAir, 0)
	if d.Rate() != (rate.Speed{Num: 1, Den: 1}) || deck.OnAir != 0 || deck.Paused != 1 || deck.Playing != 2 {
		t.Errorf("P23.1: %v", d.Rate())
	}
	d.Live(5)
	is(t, "P23.1", d, deck.OnAir, 0)
}

func TestLive(t *testing.T) {
	d := paused(t)
	d.Live(10)
	is(t, "P23.1", d, deck.OnAir, 50)
	d = playing(t)
	d.Tick(15, 0, 100)
	d.Live(15)
	is(t, "P23.1", d, deck.OnAir, 55)
	d.Tick(60, 60, 100)
	is(t, "P23.3", d, deck.OnAir, 55)
}

func TestPause(t *testing.T) {
	d := deck.New()
	ok(t, "P23.2", d.Pause(5, 0, 9))
	is(t, "P23.2", d, deck.Paused, 9)
	ok(t, "P23.2", d.Pause(7, 0, 20))
	is(t, "P23.2", d, deck.Paused, 9)
	d = playing(t)
	ok(t, "P23.2", d.Pause(17, 0, 100))
	is(t, "P23.2", d, deck.Paused, 57)
	d.Tick(30, 0, 100)
	is(t, "P23.2", d, deck.Paused, 57)
	d = playing(t)
	ok(t, "P23.2", d.Pause(80, 0, 100))
	is(t, "P23.2", d, deck.Paused, 100)
	d = playing(t)
	ok(t, "P23.2", d.Pause(12, 70, 100))
	is(t, "P23.2", d, deck.Paused, 70)
}

func TestPlay(t *testing.T) {
	d := deck.New()
	if e := d.Play(0, 0, 9); e != api.ErrState {
		t.Errorf("P23.2: Play OnAir: %d", e)
	}
	is(t, "P23.2", d, deck.OnAir, 0)
	d = playing(t)
	is(t, "P23.2", d, deck.Playing, 50)
	d.Tick(13, 0, 100)
	is(t, "P23.3", d, deck.Playing, 53)
	ok(t, "P23.2", d.Play(15, 0, 100))
	d.Tick(16, 0, 100)
	is(t, "P23.2", d, deck.Playing, 56)
	d = paused(t)
	ok(t, "P23.2", d.Play(30, 60, 100))
	is(t, "P23.2", d, deck.Playing, 60)
	d.Tick(31, 60, 100)
	is(t, "P23.2", d, deck.Playing, 61)
	d = paused(t)
	ok(t, "P23.2", d.Play(30, 0, 40))
	is(t, "P23.2", d, deck.Playing, 40)
	d.Tick(30, 0, 40)
	is(t, "P23.3", d, deck.OnAir, 40)
}

func TestSeek(t *testing.T) {
	d := deck.New()
	if e := d.Seek(0, 10, 20, 9); e != api.ErrExpired {
		t.Errorf("P23.2: ahead of all: %d", e)
	}
	is(t, "P23.2", d, deck.OnAir, 0)
	for time, want := range map[uint64]uint64{10: 10, 15: 15, 20: 20, 21: 20, math.MaxUint64: 20} {
		d := deck.New()
		ok(t, "P23.2", d.Seek(0, 10, 20, time))
		is(t, "P23.2", d, deck.Paused, want)
	}
	d = paused(t)
	ok(t, "P23.2", d.Seek(11, 0, 100, 3))
	is(t, "P23.2", d, deck.Paused, 3)
	d = playing(t)
	ok(t, "P23.2", d.Seek(20, 0, 100, 30))
	is(t, "P23.2", d, deck.Playing, 30)
	d.Tick(24, 0, 100)
	is(t, "P23.4", d, deck.Playing, 34)
}

func TestRange(t *testing.T) {
	for _, c := range [][3]uint64{{0, 5, 4}, {most + 1, 0, 9}, {0, 0, most + 1}, {0, most + 1, most + 1}, {math.MaxUint64, math.MaxUint64, math.MaxUint64}} {
		for i, d := range []*deck.Deck{deck.New(), paused(t), playing(t)} {
			mode, pos := d.Mode(), d.Pos()
			if d.Pause(c[0], c[1], c[2]) != api.ErrRange || d.Play(c[0], c[1], c[2]) != api.ErrRange || d.Seek(c[0], c[1], c[2], 0) != api.ErrRange || d.Seek(c[0], c[1], c[2], most) != api.ErrRange {
				t.Errorf("P23.2: %v of case %d", c, i)
			}
			d.Tick(c[0], c[1], c[2])
			is(t, "P23.3", d, mode, pos)
		}
	}
	d := deck.New()
	ok(t, "P23.2", d.Pause(most, most, most))
	is(t, "P23.2", d, deck.Paused, most)
}

func TestSpeed(t *testing.T) {
	for i, c := range []struct {
		now uint64
		x   float64
		e   api.Errno
	}{
		{0, math.NaN(), api.ErrNaN}, {0, minusZero, api.ErrSign}, {0, -1, api.ErrSign}, {0, math.Inf(-1), api.ErrSign}, {0, math.Inf(1), api.ErrRange}, {0, 1025, api.ErrRange}, {0, math.SmallestNonzeroFloat64, api.ErrRange}, {0, math.Ldexp(1, -21), api.ErrRange}, {most + 1, 1, api.ErrRange}, {most + 1, math.NaN(), api.ErrNaN}, {math.MaxUint64, -1, api.ErrSign},
	} {
		d := playing(t)
		if e := d.Speed(c.now, c.x); e != c.e || d.Rate() != (rate.Speed{Num: 1, Den: 1}) {
			t.Errorf("P23.2: case %d: %d, %v", i, e, d.Rate())
		}
		d.Tick(14, 0, 100)
		is(t, "P23.4", d, deck.Playing, 54)
	}
	d := playing(t)
	ok(t, "P23.2", d.Speed(14, 2.5))
	if d.Rate() != (rate.Speed{Num: 5, Den: 2}) {
		t.Errorf("P23.2: %v", d.Rate())
	}
	d.Tick(17, 0, 100)
	is(t, "P23.2", d, deck.Playing, 61)
	d.Tick(18, 0, 100)
	is(t, "P23.2", d, deck.Playing, 64)
	ok(t, "P23.2", d.Speed(18, 0))
	d.Tick(90, 0, 100)
	is(t, "P23.2", d, deck.Playing, 64)
	d = paused(t)
	ok(t, "P23.2", d.Speed(90, 3))
	d.Tick(95, 0, 100)
	is(t, "P23.3", d, deck.Paused, 50)
	ok(t, "P23.2", d.Play(95, 0, 100))
	d.Tick(97, 0, 100)
	is(t, "P23.4", d, deck.Playing, 56)
	d = deck.New()
	ok(t, "P23.2", d.Speed(0, 0.5))
	is(t, "P23.2", d, deck.OnAir, 0)
	if d.Live(3); d.Rate() != (rate.Speed{Num: 1, Den: 2}) {
		t.Errorf("P23.1: Live changes the speed: %v", d.Rate())
	}
}

func TestTick(t *testing.T) {
	d := deck.New()
	d.Tick(5, 3, 9)
	is(t, "P23.3", d, deck.OnAir, 0)
	d = paused(t)
	d.Tick(20, 49, 100)
	is(t, "P23.3", d, deck.Paused, 50)
	d.Tick(21, 60, 100)
	is(t, "P23.3", d, deck.Paused, 60)
	d.Tick(22, 10, 20)
	is(t, "P23.3", d, deck.Paused, 60)
	d = playing(t)
	d.Tick(9, 0, 100)
	is(t, "P23.3", d, deck.Playing, 50)
	d.Tick(12, 80, 100)
	is(t, "P23.3", d, deck.Playing, 80)
	d.Tick(13, 80, 100)
	is(t, "P23.4", d, deck.Playing, 81)
	d.Tick(32, 80, 100)
	is(t, "P23.3", d, deck.OnAir, 100)
	d = playing(t)
	d.Tick(90, 0, 100)
	is(t, "P23.3", d, deck.OnAir, 100)
	d = playing(t)
	d.Tick(11, 90, 90)
	is(t, "P23.3", d, deck.OnAir, 90)
}

func TestTheRestIsKeptAndLost(t *testing.T) {
	d := paused(t)
	ok(t, "P23.2", d.Speed(10, 0.5))
	ok(t, "P23.2", d.Play(10, 0, 100))
	for now := uint64(11); now <= 20; now++ {
		d.Tick(now, 0, 100)
	}
	is(t, "P23.3", d, deck.Playing, 55)
	d.Tick(21, 0, 100)
	ok(t, "P23.2", d.Seek(21, 0, 100, 20))
	d.Tick(22, 0, 100)
	is(t, "P23.4", d, deck.Playing, 20)
	d.Tick(23, 0, 100)
	is(t, "P23.4", d, deck.Playing, 21)
	d.Tick(24, 0, 100)
	ok(t, "P23.2", d.Pause(24, 0, 100))
	ok(t, "P23.2", d.Play(24, 0, 100))
	d.Tick(25, 0, 100)
	is(t, "P23.4", d, deck.Playing, 21)
	d.Tick(26, 40, 100)
	d.Tick(27, 40, 100)
	is(t, "P23.4", d, deck.Playing, 40)
}

func TestWhoPlaysComesToTheEnd(t *testing.T) {
	r := rand.New(rand.NewSource(1))
	for range 300 {
		d := deck.New()
		now, lo, hi := uint64(r.Intn(50)), uint64(r.Intn(50)), uint64(50+r.Intn(50))
		ok(t, "P23.2", d.Seek(now, lo, hi, lo+uint64(r.Intn(60))))
		ok(t, "P23.2", d.Speed(now, float64(1+r.Intn(40))/16))
		ok(t, "P23.2", d.Play(now, lo, hi))
		before, steps := d.Pos(), 0
		for d.Mode() == deck.Playing && steps < 3000 {
			steps++
			now += uint64(r.Intn(4))
			lo = min(lo+uint64(r.Intn(2)), hi)
			d.Tick(now, lo, hi)
			if d.Pos() < before || d.Pos() > hi {
				t.Fatalf("P23.5: the place falls from %d to %d", before, d.Pos())
			}
			before = d.Pos()
		}
		is(t, "P23.5", d, deck.OnAir, hi)
	}
}

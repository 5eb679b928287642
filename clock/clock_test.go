package clock_test

import (
	"math"
	"math/rand"
	"testing"

	"tickertape/api"
	"tickertape/clock"
	"tickertape/rate"
)

func of(num, den uint64) rate.Speed { return rate.Speed{Num: num, Den: den} }

func made(t *testing.T, now, pos uint64, s rate.Speed) *clock.Clock {
	t.Helper()
	c, e := clock.New(now, pos, s)
	if c == nil || e != api.OK {
		t.Fatal("P22.1: New:", e)
	}
	return c
}

func TestNew(t *testing.T) {
	for i, c := range []struct {
		now, pos uint64
		s        rate.Speed
	}{{api.MaxTick + 1, 0, of(1, 1)}, {0, api.MaxTick + 1, of(1, 1)}, {math.MaxUint64, math.MaxUint64, of(1, 1)}, {0, 0, of(0, 0)}, {0, 0, of(2, 2)}, {0, 0, of(1025, 1)}, {0, 0, of(1, 3)}} {
		if x, e := clock.New(c.now, c.pos, c.s); x != nil || e != api.ErrRange {
			t.Errorf("P22.1: case %d: %d", i, e)
		}
	}
	c := made(t, api.MaxTick, api.MaxTick, of(3, 2))
	if c.Speed() != of(3, 2) || c.Rest() != 0 || c.At(api.MaxTick) != api.MaxTick || c.At(math.MaxUint64) != api.MaxTick || c.At(0) != api.MaxTick {
		t.Errorf("P22.1: %v, %d", c.Speed(), c.Rest())
	}
}

func TestAt(t *testing.T) {
	for _, c := range []struct {
		now, pos, num, den, at, want uint64
	}{
		{0, 10, 3, 2, 3, 14}, {0, 10, 3, 2, 0, 10}, {0, 10, 3, 2, 1, 11}, {0, 10, 3, 2, 2, 13}, {5, 10, 1, 1, 5, 10}, {5, 10, 1, 1, 4, 10}, {5, 10, 1, 1, 0, 10}, {5, 10, 1, 1, 7, 12}, {0, 7, 0, 1, math.MaxUint64, 7}, {0, 0, 1, 1 << 20, 1<<20 - 1, 0}, {0, 0, 1, 1 << 20, 1 << 20, 1},
		{0, 0, 1024, 1, 1 << 52, api.MaxTick}, {0, 1, 1024, 1, 1 << 52, api.MaxTick}, {0, 0, 1024, 1, math.MaxUint64, api.MaxTick}, {0, api.MaxTick, 1, 1, 1, api.MaxTick}, {0, api.MaxTick - 5, 1, 1, 4, api.MaxTick - 1}, {0, api.MaxTick - 5, 1, 1, 5, api.MaxTick}, {0, api.MaxTick - 5, 1, 1, 6, api.MaxTick}, {0, api.MaxTick, 1, 1, api.MaxTick, api.MaxTick},
	} {
		x := made(t, c.now, c.pos, of(c.num, c.den))
		if got := x.At(c.at); got != c.want || x.Rest() != 0 {
			t.Errorf("P22.1: %v: %d, rest %d", c, got, x.Rest())
		}
		if got := x.At(c.at); got != c.want {
			t.Errorf("P22.1: %v: asked again: %d", c, got)
		}
		if got := x.Go(c.at); got != c.want {
			t.Errorf("P22.1: %v: Go is %d", c, got)
		}
	}
}

func TestGo(t *testing.T) {
	c := made(t, 0, 10, of(3, 4))
	for _, x := range []struct{ now, pos, rest uint64 }{{1, 10, 3}, {1, 10, 3}, {2, 11, 2}, {0, 11, 2}, {1, 11, 2}, {2, 11, 2}, {3, 12, 1}, {5, 13, 3}, {9, 16, 3}} {
		if got := c.Go(x.now); got != x.pos || c.Rest() != x.rest || c.At(x.now) != x.pos {
			t.Errorf("P22.1: Go(%d): %d, rest %d; want %d, %d", x.now, got, c.Rest(), x.pos, x.rest)
		}
	}
	for _, now := range []uint64{1 << 60, api.MaxTick, math.MaxUint64} {
		c = made(t, 0, 5, of(1025, 2))
		c.Go(1)
		if got := c.Go(now); got != api.MaxTick || c.Rest() != 0 {
			t.Errorf("P22.1: Go far beyond the end: %d, rest %d", got, c.Rest())
		}
	}
	c = made(t, 0, api.MaxTick-1, of(3, 2))
	if got := c.Go(1); got != api.MaxTick || c.Rest() != 0 {
		t.Errorf("P22.1: Go to the end: %d, rest %d", got, c.Rest())
	}
	if got := c.Go(2); got != api.MaxTick || c.Rest() != 0 {
		t.Errorf("P22.1: Go beyond the end: %d, rest %d", got, c.Rest())
	}
}

func TestSet(t *testing.T) {
	c := made(t, 0, 0, of(1, 4))
	c.Go(3)
	for _, x := range [][2]uint64{{api.MaxTick + 1, 0}, {0, api.MaxTick + 1}, {math.MaxUint64, 0}} {
		if e := c.Set(x[0], x[1]); e != api.ErrRange || c.Rest() != 3 || c.At(4) != 1 {
			t.Errorf("P22.2: Set(%v): %d", x, e)
		}
	}
	if e := c.Set(8, 100); e != api.OK || c.Rest() != 0 || c.At(8) != 100 || c.At(11) != 100 || c.At(12) != 101 || c.Speed() != of(1, 4) {
		t.Errorf("P22.2: Set: %d, %d", e, c.At(12))
	}
	if e := c.Set(2, 50); e != api.OK || c.At(2) != 50 || c.At(6) != 51 {
		t.Errorf("P22.2: Set back: %d, %d", e, c.At(6))
	}
}

func TestTurn(t *testing.T) {
	c := made(t, 0, 0, of(3, 4))
	c.Go(1)
	for i, e := range []api.Errno{c.Turn(api.MaxTick+1, of(1, 1)), c.Turn(5, of(2, 2)), c.Turn(5, of(0, 0)), c.Turn(5, of(1025, 1))} {
		if e != api.ErrRange || c.Rest() != 3 || c.Speed() != of(3, 4) || c.At(1) != 0 {
			t.Errorf("P22.2: case %d: %d", i, e)
		}
	}
	for _, x := range []struct {
		now, num, den, pos, rest uint64
	}{{1, 1, 8, 0, 6}, {1, 1, 2, 0, 1}, {2, 5, 1, 1, 0}, {3, 1, 1 << 20, 6, 0}, {2 + 1<<19, 3, 4, 6, 1}, {0, 1, 1 << 20, 6, 1 << 18}, {4 + 1<<19, 0, 1, 6, 0}, {1 << 40, 7, 8, 6, 0}, {api.MaxTick, 1, 1, 6 + (api.MaxTick-1<<40)/8*7, 0}} {
		if e := c.Turn(x.now, of(x.num, x.den)); e != api.OK || c.Speed() != of(x.num, x.den) || c.At(0) != x.pos || c.Rest() != x.rest {
			t.Errorf("P22.2: %v: %d, at %d, rest %d", x, e, c.At(0), c.Rest())
		}
	}
}

func TestHoweverOftenItIsAsked(t *testing.T) {
	r := rand.New(rand.NewSource(1))
	for range 300 {
		s, e := rate.Of(math.Ldexp(r.Float64(), r.Intn(8)))
		if e != api.OK {
			continue
		}
		start := r.Uint64() % 100
		a, b := made(t, start, 1000, s), made(t, start, 1000, s)
		now, before := start, uint64(0)
		for range 30 {
			now += r.Uint64() % 9
			pos := b.Go(now)
			if pos != a.At(now) || pos < before || b.At(r.Uint64()%(now+1)) != pos {
				t.Fatalf("P22.4: %v: %d on the way, %d at once", s, pos, a.At(now))
			}
			before = pos
			if r.Intn(4) == 0 {
				s, _ = rate.Of(float64(r.Intn(64)) / 16)
				a.Turn(now, s)
				b.Turn(now, s)
				if b.At(now) < before {
					t.Fatalf("P22.4: Turn goes back to %d", b.At(now))
				}
			}
		}
		if a.Go(now) != b.Go(now) || a.Rest() != b.Rest() {
			t.Fatalf("P22.4: rests %d, %d", a.Rest(), b.Rest())
		}
	}
}

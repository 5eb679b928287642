package rate_test

import (
	"math"
	"math/big"
	"math/rand"
	"testing"

	"tickertape/api"
	"tickertape/rate"
)

var (
	minusZero = math.Copysign(0, -1)
	oddNaN    = math.Float64frombits(0xFFF0000000000001)
	step      = math.Ldexp(1, -20)
)

func TestOfTellsTheNearestFraction(t *testing.T) {
	for _, c := range []struct {
		x        float64
		num, den uint64
	}{
		{0, 0, 1}, {1, 1, 1}, {1.5, 3, 2}, {2, 2, 1}, {0.75, 3, 4}, {1024, 1024, 1}, {0.1, 52429, 1 << 19},
		{step, 1, 1 << 20}, {2 * step, 1, 1 << 19}, {1 + step, 1<<20 + 1, 1 << 20}, {1.0 / 3, 349525, 1 << 20},
		{1.5 * step, 1, 1 << 19}, {2.5 * step, 1, 1 << 19}, {3.5 * step, 1, 1 << 18},
		{math.Nextafter(step/2, 1), 1, 1 << 20}, {math.Nextafter(1.5*step, 0), 1, 1 << 20},
		{math.Nextafter(1024, 0), 1024, 1}, {1024 - step, 1<<30 - 1, 1 << 20},
	} {
		s, e := rate.Of(c.x)
		if want := (rate.Speed{Num: c.num, Den: c.den}); s != want || e != api.OK {
			t.Errorf("P1.1: Of(%v) is %v, %d; want %v", c.x, s, e, want)
		}
	}
}

func TestOfRefuses(t *testing.T) {
	for _, c := range []struct {
		x float64
		e api.Errno
	}{
		{math.NaN(), api.ErrNaN}, {oddNaN, api.ErrNaN},
		{minusZero, api.ErrSign}, {-1, api.ErrSign}, {math.Inf(-1), api.ErrSign}, {-math.SmallestNonzeroFloat64, api.ErrSign},
		{math.Inf(1), api.ErrRange}, {math.Nextafter(1024, 2000), api.ErrRange}, {math.MaxFloat64, api.ErrRange},
		{step / 2, api.ErrRange}, {math.Ldexp(1, -30), api.ErrRange}, {math.SmallestNonzeroFloat64, api.ErrRange}, {math.Ldexp(1, -1022), api.ErrRange},
	} {
		if s, e := rate.Of(c.x); s != (rate.Speed{}) || e != c.e {
			t.Errorf("P1.1: Of(%v) is %v, %d; want error %d", c.x, s, e, c.e)
		}
	}
}

// nearest rounds as math does, by another way than the package's.
func nearest(x float64) rate.Speed {
	n, den := uint64(math.RoundToEven(math.Ldexp(x, 20))), uint64(1<<20)
	for den > 1 && n%2 == 0 {
		n, den = n/2, den/2
	}
	return rate.Speed{Num: n, Den: den}
}

func TestOfManyFloats(t *testing.T) {
	r := rand.New(rand.NewSource(1))
	for range 20000 {
		x := math.Ldexp(1+r.Float64(), r.Intn(30)-20)
		if r.Intn(3) == 0 {
			x = (float64(r.Intn(1<<24)) + 0.5) * step
		}
		if r.Intn(3) == 0 {
			x = math.Nextafter(x, float64(r.Intn(2))*2000)
		}
		s, e := rate.Of(x)
		if want := nearest(x); e == api.OK && s != want || e != api.OK && want.Num != 0 {
			t.Fatalf("P1.1: Of(%v) is %v, %d; want %v", x, s, e, want)
		}
		if e != api.OK {
			continue
		}
		if again, e := rate.Of(s.Float()); again != s || e != api.OK || !rate.May(s) {
			t.Fatalf("P1.6: Of of %v's Float is %v, %d", s, again, e)
		}
	}
}

func TestMay(t *testing.T) {
	for s, want := range map[rate.Speed]float64{
		{Num: 0, Den: 1}: 0, {Num: 1, Den: 1}: 1, {Num: 2, Den: 1}: 2, {Num: 3, Den: 2}: 1.5, {Num: 1024, Den: 1}: 1024,
		{Num: 1, Den: 1 << 20}: step, {Num: 1<<30 - 1, Den: 1 << 20}: 1024 - step, {Num: 2047, Den: 2}: 1023.5,
	} {
		if !rate.May(s) || s.Float() != want {
			t.Errorf("P1.2: %v: %v, %v", s, rate.May(s), s.Float())
		}
	}
	for _, s := range []rate.Speed{
		{}, {Num: 1}, {Num: 0, Den: 2}, {Num: 2, Den: 2}, {Num: 6, Den: 4}, {Num: 1, Den: 3}, {Num: 1, Den: 6}, {Num: 1025, Den: 1},
		{Num: 2049, Den: 2}, {Num: 1, Den: 1 << 21}, {Num: 1<<30 + 1, Den: 1 << 20}, {Num: 1, Den: 1 << 63}, {Num: math.MaxUint64, Den: 1}, {Num: 1, Den: math.MaxUint64},
	} {
		if rate.May(s) || s.Float() != 0 {
			t.Errorf("P1.2: %v: %v, %v", s, rate.May(s), s.Float())
		}
	}
}

func TestBitsHaveOneNaN(t *testing.T) {
	const nan = 0x7FF8000000000000
	for x, want := range map[float64]uint64{0: 0, 1: 0x3FF0000000000000, -2: 0xC000000000000000, math.Inf(1): 0x7FF0000000000000, math.Inf(-1): 0xFFF0000000000000, 5e-324: 1} {
		if rate.Bits(x) != want || rate.From(want) != x {
			t.Errorf("P1.3: Bits(%v) is %x, From(%x) is %v", x, rate.Bits(x), want, rate.From(want))
		}
	}
	if rate.Bits(minusZero) != 1<<63 || !math.Signbit(rate.From(1<<63)) {
		t.Error("P1.3: minus nought has lost its sign")
	}
	for _, b := range []uint64{nan, nan + 1, 0x7FF0000000000001, 0x7FFFFFFFFFFFFFFF, 0xFFF0000000000001, 0xFFF8000000000000, math.MaxUint64} {
		if rate.Bits(math.Float64frombits(b)) != nan || math.Float64bits(rate.From(b)) != nan {
			t.Errorf("P1.3: %x", b)
		}
	}
}

func TestOrder(t *testing.T) {
	rising := []float64{math.Inf(-1), -math.MaxFloat64, -2, -1, -math.SmallestNonzeroFloat64, minusZero, 0, math.SmallestNonzeroFloat64, 1, 2, math.MaxFloat64, math.Inf(1), math.NaN()}
	for i, a := range rising {
		for k, b := range rising {
			want := 0
			if i < k {
				want = -1
			} else if i > k {
				want = 1
			}
			if got := rate.Order(a, b); got != want {
				t.Errorf("P1.3: Order(%v, %v) is %d", a, b, got)
			}
		}
	}
	if rate.Order(oddNaN, math.NaN()) != 0 || rate.Order(oddNaN, math.Inf(-1)) != 1 {
		t.Error("P1.3: NaNs differ")
	}
}

func TestScale(t *testing.T) {
	for _, c := range []struct {
		ticks, rest, num, den, n, left uint64
		e                              api.Errno
	}{
		{5, 1, 3, 2, 8, 0, api.OK}, {5, 0, 3, 2, 7, 1, api.OK}, {0, 0, 0, 1, 0, 0, api.OK}, {9, 0, 0, 1, 0, 0, api.OK}, {0, 1, 1, 2, 0, 1, api.OK},
		{api.MaxTick, 0, 1, 1, api.MaxTick, 0, api.OK}, {api.MaxTick + 1, 0, 1, 1, 0, 0, api.ErrRange},
		{1 << 63, 1, 1, 2, 1 << 62, 1, api.OK}, {1<<63 + 1, 0, 1, 2, 1 << 62, 1, api.OK}, {1<<63 + 1, 1, 1, 2, 0, 0, api.ErrRange},
		{1 << 52, 0, 1024, 1, 1 << 62, 0, api.OK}, {1<<52 + 1, 0, 1024, 1, 0, 0, api.ErrRange}, {math.MaxUint64, 0, 1024, 1, 0, 0, api.ErrRange}, {1 << 63, 0, 2, 1, 0, 0, api.ErrRange}, {1 << 63, 0, 5, 2, 0, 0, api.ErrRange}, {1 << 63, 0, 4, 1, 0, 0, api.ErrRange},
		{math.MaxUint64, 1<<20 - 1, 1, 1 << 20, 1 << 44, 1<<20 - 2, api.OK}, {math.MaxUint64, 1<<20 - 1, 1<<30 - 1, 1 << 20, 0, 0, api.ErrRange},
		{1, 2, 3, 2, 0, 0, api.ErrRange}, {1, 1, 1, 1, 0, 0, api.ErrRange}, {1, 0, 2, 2, 0, 0, api.ErrRange}, {1, 0, 1, 0, 0, 0, api.ErrRange}, {1, 0, 1025, 1, 0, 0, api.ErrRange},
	} {
		n, left, e := rate.Scale(c.ticks, c.rest, rate.Speed{Num: c.num, Den: c.den})
		if n != c.n || left != c.left || e != c.e {
			t.Errorf("P1.4: %v: %d, %d, %d", c, n, left, e)
		}
	}
}

func TestScaleAgainstBigNumbers(t *testing.T) {
	r := rand.New(rand.NewSource(2))
	for range 5000 {
		s := nearest(math.Ldexp(r.Float64(), r.Intn(11)))
		ticks, rest := r.Uint64()>>r.Intn(64), r.Uint64()%s.Den
		sum := new(big.Int).Mul(new(big.Int).SetUint64(ticks), new(big.Int).SetUint64(s.Num))
		sum.Add(sum, new(big.Int).SetUint64(rest))
		q, m := new(big.Int).DivMod(sum, new(big.Int).SetUint64(s.Den), new(big.Int))
		n, left, e := rate.Scale(ticks, rest, s)
		if q.Cmp(big.NewInt(api.MaxTick)) > 0 {
			if n != 0 || left != 0 || e != api.ErrRange {
				t.Fatalf("P1.4: Scale(%d, %d, %v) is %d, %d, %d", ticks, rest, s, n, left, e)
			}
		} else if n != q.Uint64() || left != m.Uint64() || e != api.OK {
			t.Fatalf("P1.4: Scale(%d, %d, %v) is %d, %d, %d", ticks, rest, s, n, left, e)
		}
	}
}

func TestScaledBitByBitIsTheSame(t *testing.T) {
	r := rand.New(rand.NewSource(3))
	for range 200 {
		s, e := rate.Of(r.Float64() * 20)
		if e != api.OK {
			continue
		}
		all, sum, rest := uint64(0), uint64(0), uint64(0)
		for range 30 {
			ticks := r.Uint64() % 50
			n, left, e := rate.Scale(ticks, rest, s)
			if e != api.OK {
				t.Fatal("P1.6:", e)
			}
			all, sum, rest = all+ticks, sum+n, left
		}
		if n, left, e := rate.Scale(all, 0, s); n != sum || left != rest || e != api.OK {
			t.Fatalf("P1.6: %v: %d, %d at once, %d, %d bit by bit", s, n, left, sum, rest)
		}
	}
}

func TestSeconds(t *testing.T) {
	for ticks, want := range map[uint64]float64{0: 0, 1: 0.001, 1500: 1.5, 1<<53 + 1: (1 << 53) / 1000.0, 1<<53 + 3: (1<<53 + 4) / 1000.0, math.MaxUint64: 18446744073709551616.0 / 1000} {
		if got := rate.Seconds(ticks); got != want {
			t.Errorf("P1.5: Seconds(%d) is %v", ticks, got)
		}
	}
}

func TestTicks(t *testing.T) {
	for _, c := range []struct {
		seconds float64
		ticks   uint64
		e       api.Errno
	}{
		{0, 0, api.OK}, {1.5, 1500, api.OK}, {0.0019, 1, api.OK}, {0.29, 290, api.OK}, {0.0009999, 0, api.OK}, {math.SmallestNonzeroFloat64, 0, api.OK},
		{9007199254740.992, 1 << 53, api.OK}, {9007199254740.994, 0, api.ErrRange}, {1e13, 0, api.ErrRange}, {math.MaxFloat64, 0, api.ErrRange}, {math.Inf(1), 0, api.ErrRange},
		{math.NaN(), 0, api.ErrNaN}, {oddNaN, 0, api.ErrNaN}, {minusZero, 0, api.ErrSign}, {-1, 0, api.ErrSign}, {math.Inf(-1), 0, api.ErrSign},
	} {
		if n, e := rate.Ticks(c.seconds); n != c.ticks || e != c.e {
			t.Errorf("P1.5: Ticks(%v) is %d, %d", c.seconds, n, e)
		}
	}
}

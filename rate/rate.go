// Package rate has speeds and times (chapter 1): floats that come in, fractions that are reckoned with.
package rate

import (
	"math"
	"math/bits"

	"tickertape/api"
)

// A float64 is a sign, an exponent of 11 bits, and a fraction of 52 bits.
const (
	signBit      = 1 << 63
	fractionBits = 52
	fractionMask = 1<<fractionBits - 1
	exponentMask = 1<<11 - 1
	// smallestPower is the power of two that the last bit of a subnormal float stands for.
	smallestPower = -1074
)

const (
	quietNaN   = 0x7FF8000000000000
	infinity   = 0x7FF0000000000000
	finestBits = 20
	finest     = 1 << finestBits
)

// exactTicks is the end of the whole numbers that a float64 tells apart.
const exactTicks = 1 << 53

// Speed is the fraction Num / Den of a tick played to a tick that passes.
type Speed struct {
	Num, Den uint64
}

// Of tells the speed that is nearest to x.
func Of(x float64) (Speed, api.Errno) {
	if e := unsigned(x); e != api.OK {
		return Speed{}, e
	}
	if x > api.MaxSpeed {
		return Speed{}, api.ErrRange
	}
	n := steps(math.Float64bits(x))
	if n == 0 && x != 0 {
		return Speed{}, api.ErrRange
	}
	return leastTerms(n), api.OK
}

// unsigned refuses NaNs, and all that has its sign set: minus nought too, which no comparison with 0 would find.
func unsigned(x float64) api.Errno {
	b := math.Float64bits(x)
	if isNaN(b) {
		return api.ErrNaN
	}
	if b&signBit != 0 {
		return api.ErrSign
	}
	return api.OK
}

func isNaN(b uint64) bool {
	return b&^signBit > infinity
}

// steps rounds the float of these bits (no sign, MaxSpeed at most) to multiples of 2^-20, ties to even.
func steps(b uint64) uint64 {
	fraction, power := b&fractionMask, smallestPower
	if exponent := b >> fractionBits & exponentMask; exponent != 0 {
		fraction |= 1 << fractionBits
		power += int(exponent) - 1
	}
	// As x is small against 2^53, the fraction always has bits to lose.
	drop := -(power + finestBits)
	if drop > 63 {
		return 0
	}
	whole, lost := fraction>>drop, fraction&(1<<drop-1)
	half := uint64(1) << (drop - 1)
	if lost > half || lost == half && whole%2 == 1 {
		whole++
	}
	return whole
}

func leastTerms(n uint64) Speed {
	shared := min(bits.TrailingZeros64(n), finestBits)
	return Speed{Num: n >> shared, Den: finest >> shared}
}

// May tells whether s is a speed in its least terms.
func May(s Speed) bool {
	if s.Den == 0 || s.Den > finest || s.Den&(s.Den-1) != 0 {
		return false
	}
	return s.Num <= api.MaxSpeed*s.Den && (s.Den == 1 || s.Num%2 == 1)
}

// Float is Num / Den.
func (s Speed) Float() float64 {
	if !May(s) {
		return 0
	}
	return float64(s.Num) / float64(s.Den)
}

// Bits is x as 64 bits, with one form for all NaNs.
func Bits(x float64) uint64 {
	return oneNaN(math.Float64bits(x))
}

// From is the float of these bits.
func From(b uint64) float64 {
	return math.Float64frombits(oneNaN(b))
}

func oneNaN(b uint64) uint64 {
	if isNaN(b) {
		return quietNaN
	}
	return b
}

// Order compares all floats, NaN last.
func Order(a, b float64) int {
	x, y := rank(a), rank(b)
	switch {
	case x < y:
		return -1
	case x > y:
		return 1
	}
	return 0
}

// rank turns the bits so that they rise as the floats do: those with a sign count downwards.
func rank(x float64) uint64 {
	b := Bits(x)
	if b&signBit != 0 {
		return ^b
	}
	return b | signBit
}

// Scale tells how far ticks go at the speed s, and what is left over.
func Scale(ticks, rest uint64, s Speed) (uint64, uint64, api.Errno) {
	if !May(s) || rest >= s.Den {
		return 0, 0, api.ErrRange
	}
	high, low := bits.Mul64(ticks, s.Num)
	low, carry := bits.Add64(low, rest, 0)
	high += carry
	// A high half of Den or more is a quotient of more than 64 bits.
	if high >= s.Den {
		return 0, 0, api.ErrRange
	}
	n, left := bits.Div64(high, low, s.Den)
	if n > api.MaxTick {
		return 0, 0, api.ErrRange
	}
	return n, left, api.OK
}

// Seconds is ticks as seconds.
func Seconds(ticks uint64) float64 {
	return float64(ticks) / 1000
}

// Ticks is seconds as whole ticks.
func Ticks(seconds float64) (uint64, api.Errno) {
	if e := unsigned(seconds); e != api.OK {
		return 0, e
	}
	ticks := seconds * 1000
	if ticks > exactTicks {
		return 0, api.ErrRange
	}
	return uint64(ticks), api.OK
}

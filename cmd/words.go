package cmd

import (
	"math"
	"strconv"
	"strings"

	"tickertape/api"
	"tickertape/rate"
)

// The words.
const (
	live  = "live"
	pause = "pause"
	play  = "play"
	seek  = "seek "
	speed = "speed "
)

const (
	hexDigits      = 16
	fractionDigits = 4
)

// Print is c in words.
func Print(c Command) string {
	if !May(c) {
		return ""
	}
	switch c.Kind {
	case GoLive:
		return live
	case GoPause:
		return pause
	case GoPlay:
		return play
	case GoSeek:
		return seek + strconv.FormatUint(c.Time, 10)
	}
	s := strconv.FormatUint(rate.Bits(c.Speed), 16)
	return speed + strings.Repeat("0", hexDigits-len(s)) + s
}

// Parse is the command of these words.
func Parse(s string) (Command, api.Errno) {
	switch s {
	case live:
		return Command{Kind: GoLive}, api.OK
	case pause:
		return Command{Kind: GoPause}, api.OK
	case play:
		return Command{Kind: GoPlay}, api.OK
	}
	c, e := Command{}, api.ErrForm
	if rest, ok := strings.CutPrefix(s, seek); ok {
		c.Kind = GoSeek
		c.Time, e = parseTime(rest)
	}
	if rest, ok := strings.CutPrefix(s, speed); ok {
		c.Kind = GoSpeed
		c.Speed, e = parseSpeed(rest)
	}
	if e != api.OK {
		return Command{}, e
	}
	return c, api.OK
}

func parseTime(s string) (uint64, api.Errno) {
	n, e := strconv.ParseUint(s, 10, 64)
	if e != nil || n > api.MaxTick || strconv.FormatUint(n, 10) != s {
		return 0, api.ErrForm
	}
	return n, api.OK
}

func parseSpeed(s string) (float64, api.Errno) {
	switch s {
	case "nan":
		return rate.From(rate.Bits(math.NaN())), api.OK
	case "inf":
		return math.Inf(1), api.OK
	case "-inf":
		return math.Inf(-1), api.OK
	case "-0":
		return math.Copysign(0, -1), api.OK
	}
	if above, below, ok := strings.Cut(s, "/"); ok {
		return parseFraction(above, below)
	}
	return parseBits(s)
}

func parseFraction(above, below string) (float64, api.Errno) {
	a, ok := parseShort(above)
	b, ok2 := parseShort(below)
	if !ok || !ok2 {
		return 0, api.ErrForm
	}
	if b == 0 {
		return 0, api.ErrRange
	}
	return float64(a) / float64(b), api.OK
}

// parseShort is a number of few digits, without a 0 ahead.
func parseShort(s string) (int, bool) {
	n, e := strconv.Atoi(s)
	if e != nil || n < 0 || len(s) > fractionDigits || strconv.Itoa(n) != s {
		return 0, false
	}
	return n, true
}

func parseBits(s string) (float64, api.Errno) {
	n, e := strconv.ParseUint(s, 16, 64)
	if e != nil {
		return 0, api.ErrForm
	}
	x := rate.From(n)
	// Digits of another form, another count of them, or another NaN are printed otherwise.
	if Print(Command{Kind: GoSpeed, Speed: x}) != speed+s {
		return 0, api.ErrForm
	}
	return x, api.OK
}

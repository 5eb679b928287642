package world

import (
	"math"
	"strconv"

	"tickertape/cmd"
	"tickertape/disk"
)

const (
	eventLen   = 4
	mostEvents = 300
	escape     = 27
	rubout     = 127
)

// Events is a script of any bytes.
func Events(b []byte) []Event {
	var l []Event
	for len(b) >= eventLen && len(l) < mostEvents {
		l = append(l, event(b[0], b[1], b[2], b[3]))
		b = b[eventLen:]
	}
	return l
}

func event(k, x, y, z byte) Event {
	switch k % 16 {
	case 0, 1, 2, 3:
		return Event{Kind: Output, Bytes: []byte{typed(x), typed(y), typed(z)}}
	case 4:
		return Event{Kind: Output, Bytes: control(x, y, z)}
	case 5, 6, 7:
		return Event{Kind: Pass, N: 1 + int(x%20)}
	case 8:
		return Event{Kind: Ask, Viewer: int(x % 3), Command: command(y, z)}
	case 9, 10:
		return Event{Kind: Deliver, N: int(x)}
	case 11:
		if y%2 == 0 {
			return Event{Kind: Drop, N: int(x)}
		}
		return Event{Kind: Double, N: int(x)}
	case 12:
		return Event{Kind: SyncNow}
	case 13:
		falls := []disk.Outcome{{Keep: int(z), Junk: []byte{y, y, y}}}
		if x%2 == 0 {
			return Event{Kind: Fall, Falls: falls}
		}
		return Event{Kind: ArmFall, N: 1 + int(y), Falls: falls}
	case 14:
		return Event{Kind: Boot}
	}
	return Event{Kind: Move, Viewer: int(x % 3), N: int(y)}
}

// typed is c, with escapes in place of a sign that does nothing.
func typed(c byte) byte {
	if c == rubout {
		return escape
	}
	return c
}

// control is a control sequence of two params.
func control(x, y, z byte) []byte {
	s := "\x1b[" + strconv.Itoa(int(x%40)) + ";" + strconv.Itoa(int(y%80))
	return append([]byte(s), 64+z%40)
}

func command(y, z byte) cmd.Command {
	switch y % 6 {
	case 0:
		return cmd.Command{Kind: cmd.GoLive}
	case 1:
		return cmd.Command{Kind: cmd.GoPause}
	case 2:
		return cmd.Command{Kind: cmd.GoPlay}
	case 3:
		return cmd.Command{Kind: cmd.GoSeek, Time: uint64(z) * 4}
	case 4:
		return cmd.Command{Kind: cmd.GoSpeed, Speed: float64(z)/16 - 1}
	}
	return cmd.Command{Kind: cmd.GoSpeed, Speed: math.Float64frombits(uint64(z) << 52)}
}

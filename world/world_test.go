package world_test

import (
	"bytes"
	"math"
	"math/rand"
	"slices"
	"testing"

	"tickertape/api"
	"tickertape/cmd"
	"tickertape/deck"
	"tickertape/disk"
	"tickertape/film"
	"tickertape/log"
	"tickertape/pkt"
	"tickertape/rate"
	"tickertape/rec"
	"tickertape/screen"
	"tickertape/seek"
	"tickertape/server"
	"tickertape/sync"
	"tickertape/world"
)

var conf = server.Conf{Rows: 2, Cols: 8, Film: film.Conf{Conf: log.Conf{Segment: 4096, Keep: 1 << 18, Age: 1000}, Every: 5}, Resend: 10, Room: 1 << 20}

func made(t *testing.T, c server.Conf, viewers int) *world.World {
	t.Helper()
	w, e := world.New(c, viewers)
	if w == nil || e != api.OK {
		t.Fatal("P31.1: New:", e)
	}
	return w
}

// told does an event, and compares what it came to.
func told(t *testing.T, w *world.World, e world.Event, errno api.Errno, n int) {
	t.Helper()
	if got := w.Do(e); got != (world.Told{Errno: errno, N: n}) {
		t.Errorf("P31: kind %d of viewer %d, N %d: %v; want error %d, N %d", e.Kind, e.Viewer, e.N, got, errno, n)
	}
}

func ok(t *testing.T, w *world.World, l ...world.Event) {
	t.Helper()
	for i, x := range w.Run(l...) {
		if x.Errno != api.OK || x.Event != i {
			t.Errorf("P31.4: event %d: %v", i, x)
		}
	}
}

func output(s string) world.Event { return world.Event{Kind: world.Output, Bytes: []byte(s)} }

func pass(n int) world.Event { return world.Event{Kind: world.Pass, N: n} }

func deliver(n int) world.Event { return world.Event{Kind: world.Deliver, N: n} }

func ask(viewer int, c cmd.Command) world.Event {
	return world.Event{Kind: world.Ask, Viewer: viewer, Command: c}
}

// land delivers all that flies, up first.
func land(w *world.World) {
	for w.Flying(true) > 0 {
		w.Do(deliver(0))
	}
	for w.Flying(false) > 0 {
		w.Do(deliver(1))
	}
}

// settle passes ticks, and delivers all.
func settle(t *testing.T, w *world.World, ticks int) {
	t.Helper()
	for range ticks {
		if x := w.Do(pass(1)); x.Errno != api.OK {
			t.Fatal("P31.2: Pass:", x)
		}
		land(w)
	}
}

func row(s screen.Screen) string {
	if l := screen.Text(s); len(l) > 0 {
		return l[0]
	}
	return "none"
}

func same(a, b sync.State) bool {
	return a.Num == b.Num && a.Mode == b.Mode && a.Pos == b.Pos && screen.Same(a.Screen, b.Screen)
}

func TestNew(t *testing.T) {
	bad := conf
	bad.Rows = 0
	for i, c := range []struct {
		c       server.Conf
		viewers int
	}{{bad, 1}, {server.Conf{}, 0}, {conf, -1}, {conf, api.MaxViewers + 1}, {conf, math.MaxInt}} {
		if w, e := world.New(c.c, c.viewers); w != nil || e != api.ErrRange {
			t.Errorf("P31.1: case %d: %d", i, e)
		}
	}
	for _, viewers := range []int{0, 1, api.MaxViewers} {
		w := made(t, conf, viewers)
		if !w.Up() || w.Now() != 0 || w.Flying(true) != 0 || w.Flying(false) != 0 || w.Disk().Room() != conf.Room || w.Server() == nil {
			t.Errorf("P31.1: of %d viewers", viewers)
		}
		for i := -1; i <= api.MaxViewers; i++ {
			there := i >= 0 && i < viewers
			joined := w.Server().Take(i, 0, nil) != api.ErrNone
			if (w.Viewer(i) != nil) != there || joined != there {
				t.Errorf("P31.1: viewer %d of %d: joined %v", i, viewers, joined)
			}
		}
	}
}

func TestPass(t *testing.T) {
	w := made(t, conf, 1)
	told(t, w, pass(1), api.OK, 1)
	if w.Flying(true) != 1 || w.Flying(false) != 0 || w.Now() != 1 || w.Server().Now() != 1 {
		t.Errorf("P31.2: %d up, %d down, now %d", w.Flying(true), w.Flying(false), w.Now())
	}
	for _, n := range []int{0, -1, 1001, math.MaxInt, math.MinInt} {
		told(t, w, pass(n), api.ErrRange, 0)
	}
	told(t, w, pass(9), api.OK, 0)
	told(t, w, pass(1), api.OK, 1)
	told(t, w, deliver(0), api.OK, 0)
	told(t, w, pass(1), api.OK, 1)
	told(t, w, deliver(1), api.OK, 0)
	told(t, w, pass(1000), api.OK, 200)
	if w.Now() != 1012 || w.Flying(true) != 101 || w.Flying(false) != 100 {
		t.Errorf("P31.2: %d up, %d down, now %d", w.Flying(true), w.Flying(false), w.Now())
	}
}

func TestOutputReachesTheViewer(t *testing.T) {
	w := made(t, conf, 2)
	ok(t, w, output("abc"), pass(1), deliver(0), deliver(0), pass(1), deliver(1), deliver(1))
	for i := range 2 {
		if s := w.Viewer(i).Shown(); s.Num != 1 || s.Pos != 1 || row(s.Screen) != "abc" {
			t.Errorf("P31.2: viewer %d shows %v", i, s)
		}
	}
	ok(t, w, world.Event{Kind: world.Resize, N: 3005})
	if s := w.Server().Screen(); s.Rows != 3 || s.Cols != 5 {
		t.Errorf("P31.2: Resize: %d, %d", s.Rows, s.Cols)
	}
	for _, n := range []int{0, 5, 1000, 3000, -1001, 61001, 1201, math.MaxInt, math.MinInt} {
		told(t, w, world.Event{Kind: world.Resize, N: n}, api.ErrRange, 0)
	}
}

func TestAsk(t *testing.T) {
	w := made(t, conf, 2)
	ok(t, w, output("a"))
	settle(t, w, 3)
	ok(t, w, output("b"))
	settle(t, w, 3)
	ok(t, w, ask(1, cmd.Command{Kind: cmd.GoSeek, Time: 2}))
	told(t, w, ask(1, cmd.Command{Kind: cmd.GoLive}), api.ErrState, 0)
	told(t, w, ask(1, cmd.Command{Kind: 9}), api.ErrRange, 0)
	for _, viewer := range []int{-1, 2, math.MaxInt} {
		told(t, w, ask(viewer, cmd.Command{Kind: cmd.GoLive}), api.ErrRange, 0)
	}
	settle(t, w, 3)
	if s := w.Viewer(1).Shown(); s.Mode != deck.Paused || s.Pos != 1 || row(s.Screen) != "a" || w.Viewer(1).Waits() {
		t.Errorf("P31.2: %v", s)
	}
	if s := w.Viewer(0).Shown(); s.Mode != deck.OnAir || row(s.Screen) != "ab" {
		t.Errorf("P31.2: the other viewer: %v", s)
	}
}

func TestDown(t *testing.T) {
	w := made(t, conf, 1)
	ok(t, w, output("a"), pass(2), world.Event{Kind: world.Fall})
	if w.Up() || w.Server() != nil || w.Disk().Up() || w.Now() != 2 || w.Viewer(0) == nil {
		t.Error("P31.2: Fall")
	}
	told(t, w, world.Event{Kind: world.Fall}, api.ErrState, 0)
	for _, e := range []world.Event{output("b"), {Kind: world.Resize, N: 3003}, pass(1), pass(0), {Kind: world.SyncNow}, ask(0, cmd.Command{Kind: cmd.GoLive}), ask(9, cmd.Command{})} {
		told(t, w, e, api.ErrDown, 0)
	}
	ok(t, w, world.Event{Kind: world.ArmFall, N: 99}, world.Event{Kind: world.Move, Viewer: 0, N: 7}, world.Event{Kind: world.Forge, N: 1}, world.Event{Kind: world.Double, N: 0})
	if w.Flying(true) != 2 || w.Flying(false) != 1 {
		t.Errorf("P31.3: %d up, %d down", w.Flying(true), w.Flying(false))
	}
	told(t, w, deliver(0), api.ErrDown, 0)
	told(t, w, deliver(1), api.ErrShort, 0)
	if w.Flying(true) != 1 || w.Flying(false) != 0 {
		t.Errorf("P31.3: what arrives flies on: %d up, %d down", w.Flying(true), w.Flying(false))
	}
	ok(t, w, world.Event{Kind: world.Boot})
	told(t, w, world.Event{Kind: world.Boot}, api.ErrState, 0)
	if !w.Up() || w.Server() == nil || w.Now() != 2 || w.Flying(true) != 0 || w.Flying(false) != 0 {
		t.Errorf("P31.2: Boot: now %d, %d up", w.Now(), w.Flying(true))
	}
	ok(t, w, pass(1))
	if w.Now() != 3 || w.Server().Now() != 3 {
		t.Errorf("P31.4: behind a Boot: %d, %d", w.Now(), w.Server().Now())
	}
}

func TestAFallBehindASync(t *testing.T) {
	w := made(t, conf, 1)
	ok(t, w, output("a"), pass(2), output("b"), pass(2), world.Event{Kind: world.SyncNow}, output("c"), pass(2), world.Event{Kind: world.Fall, Falls: []disk.Outcome{{Keep: 3, Junk: []byte("xyz")}}}, world.Event{Kind: world.Boot})
	if lo, hi, there := seek.Ends(w.Server().Film()); lo != 1 || hi != 3 || !there || w.Now() != 6 || w.Server().Now() != 3 {
		t.Errorf("P31.2: the film is from %d to %d, now %d", lo, hi, w.Now())
	}
	if got, e := seek.At(w.Server().Film(), nil, 9); row(got.Screen) != "ab" || e != api.OK {
		t.Errorf("P31.2: it ends with %q, %d", row(got.Screen), e)
	}
	if w.Viewer(0).Shown().Num != 0 || w.Viewer(0).Asked() != 0 {
		t.Error("P31.2: the viewer's end is not new")
	}
	settle(t, w, 3)
	if s := w.Viewer(0).Shown(); s.Num != 1 || row(s.Screen) != "" || s.Pos != 7 {
		t.Errorf("P31.2: behind the Boot: %v", s)
	}
}

func TestAFallWithinPass(t *testing.T) {
	w := made(t, conf, 1)
	settle(t, w, 2)
	ok(t, w, output("a"))
	// The frame's Append is the next tick's first operation, reading it the second: the second tick reads, too.
	ok(t, w, world.Event{Kind: world.ArmFall, N: 3})
	told(t, w, pass(9), api.ErrDown, 2)
	if w.Up() || w.Disk().Up() || w.Flying(false) != 1 {
		t.Errorf("P31.2: up %v, %d down", w.Up(), w.Flying(false))
	}
	told(t, w, deliver(1), api.OK, 0)
	if s := w.Viewer(0).Shown(); row(s.Screen) != "a" {
		t.Errorf("P31.3: what flies arrives: %v", s)
	}
	ok(t, w, world.Event{Kind: world.Boot}, output("z"), pass(1), output("y"), world.Event{Kind: world.ArmFall, N: 1})
	told(t, w, world.Event{Kind: world.SyncNow}, api.ErrDown, 0)
	if w.Up() || w.Server() != nil {
		t.Error("P31.2: SyncNow on a disk that falls")
	}
	told(t, w, world.Event{Kind: world.ArmFall, N: 0}, api.ErrState, 0)
	told(t, w, world.Event{Kind: world.ArmFall, N: -1}, api.ErrState, 0)
	ok(t, w, world.Event{Kind: world.ArmFall, N: 1})
	told(t, w, world.Event{Kind: world.Boot}, api.ErrDown, 0)
	if w.Up() || w.Disk().Up() {
		t.Error("P31.2: a Boot on a disk that falls")
	}
	ok(t, w, world.Event{Kind: world.Boot})
}

func TestABootThatFails(t *testing.T) {
	w := made(t, conf, 2)
	ok(t, w, output("a"), pass(1), deliver(0), pass(1), deliver(1), ask(0, cmd.Command{Kind: cmd.GoPause}), world.Event{Kind: world.Fall})
	up := w.Flying(true)
	w.Disk().Reboot()
	b, _ := w.Disk().Peek("man")
	w.Disk().Truncate("man", 3)
	told(t, w, world.Event{Kind: world.Boot}, api.ErrForm, 0)
	if w.Up() || w.Server() != nil || w.Now() != 2 || w.Flying(true) != up || up == 0 || w.Viewer(0).Asked() != 1 || row(w.Viewer(0).Shown().Screen) != "a" {
		t.Errorf("P31.2: a Boot that fails: now %d, %d up", w.Now(), w.Flying(true))
	}
	told(t, w, output("x"), api.ErrDown, 0)
	w.Disk().Append("man", b[3:])
	ok(t, w, world.Event{Kind: world.Boot})
	if !w.Up() || w.Flying(true) != 0 || w.Viewer(0).Asked() != 0 {
		t.Error("P31.2: Boot")
	}
}

func TestNowIsTheNewServersIfGreater(t *testing.T) {
	w := made(t, conf, 1)
	ok(t, w, output("a"), pass(2))
	s := w.Server().Screen()
	s.Title = "later"
	if _, e := w.Server().Film().Push(500, s); e != api.OK {
		t.Fatal("P20.2:", e)
	}
	ok(t, w, world.Event{Kind: world.SyncNow}, world.Event{Kind: world.Fall}, world.Event{Kind: world.Boot})
	if w.Now() != 500 {
		t.Errorf("P31.2: now %d", w.Now())
	}
	ok(t, w, pass(1))
	if w.Now() != 501 || w.Server().Now() != 501 {
		t.Errorf("P31.4: now %d", w.Now())
	}
}

func TestTheEndOfTime(t *testing.T) {
	w := made(t, conf, 1)
	ok(t, w, output("a"), pass(2))
	s := w.Server().Screen()
	s.Title = "last"
	if _, e := w.Server().Film().Push(api.MaxTick-1, s); e != api.OK {
		t.Fatal("P20.2:", e)
	}
	ok(t, w, world.Event{Kind: world.SyncNow}, world.Event{Kind: world.Fall}, world.Event{Kind: world.Boot})
	w.Run(pass(5), pass(5))
	if w.Now() != api.MaxTick || !w.Up() {
		t.Errorf("P31.2: now %d, up %v", w.Now(), w.Up())
	}
}

func TestAViewerThatIsTheServersAlone(t *testing.T) {
	w := made(t, conf, 1)
	num, _ := w.Server().Join([]byte("other"))
	b, _ := pkt.Seal([]byte("other"), pkt.Packet{Dir: 2, Viewer: num, Num: 1, Body: []byte{0, 0}})
	if e := w.Server().Take(num, 5, b); e != api.OK {
		t.Fatal("P29.3:", e)
	}
	ok(t, w, pass(1))
	if w.Do(deliver(1)); w.Flying(false) != 0 {
		t.Errorf("P31.3: %d down", w.Flying(false))
	}
}

func TestTheNet(t *testing.T) {
	w := made(t, conf, 3)
	for _, kind := range []int{world.Deliver, world.Drop, world.Double} {
		for _, n := range []int{0, 1, 5, -1, -2, math.MaxInt, math.MinInt} {
			told(t, w, world.Event{Kind: kind, N: n}, api.ErrNone, 0)
		}
	}
	ok(t, w, pass(1))
	if w.Flying(true) != 3 {
		t.Fatal("P31.2:", w.Flying(true))
	}
	ok(t, w, world.Event{Kind: world.Double, N: 2}, world.Event{Kind: world.Drop, N: 0})
	// Now fly those of viewers 1, 2 and 1 again.
	told(t, w, deliver(6), api.ErrNone, 0)
	told(t, w, deliver(4), api.OK, 0)
	told(t, w, deliver(0), api.ErrReplay, 0)
	told(t, w, deliver(0), api.OK, 0)
	told(t, w, pass(1), api.OK, 2)
	ok(t, w, world.Event{Kind: world.Double, N: 1})
	told(t, w, deliver(3), api.OK, 0)
	if w.Viewer(2).Shown().Num != 1 || w.Viewer(1).Shown().Num != 0 {
		t.Error("P31.3: the second of what flies down is viewer 2's")
	}
	told(t, w, deliver(1), api.OK, 0)
	told(t, w, deliver(1), api.ErrReplay, 0)
	if w.Viewer(1).Shown().Num != 1 || w.Viewer(0).Shown().Num != 0 || w.Flying(false) != 0 {
		t.Errorf("P31.3: %d down", w.Flying(false))
	}
}

func TestForge(t *testing.T) {
	w := made(t, conf, 2)
	for _, e := range []world.Event{{Kind: world.Forge, N: -1}, {Kind: world.Forge, N: math.MinInt}, {Kind: world.Forge, Viewer: 2}, {Kind: world.Forge, Viewer: -1}} {
		told(t, w, e, api.ErrRange, 0)
	}
	b, _ := pkt.Seal([]byte("key1"), pkt.Packet{Dir: 2, Viewer: 1, Num: 1, Body: []byte{0, 0}})
	ok(t, w, pass(1), world.Event{Kind: world.Forge, Viewer: 1, N: 8, Bytes: b}, world.Event{Kind: world.Forge, Viewer: 0, N: 2, Bytes: b}, world.Event{Kind: world.Forge, Viewer: 1, N: 5, Bytes: []byte("junk")})
	b[0] = 9
	if w.Flying(true) != 4 || w.Flying(false) != 1 {
		t.Errorf("P31.3: %d up, %d down", w.Flying(true), w.Flying(false))
	}
	told(t, w, deliver(1), api.ErrShort, 0)
	told(t, w, deliver(6), api.ErrTag, 0)
	told(t, w, deliver(4), api.OK, 0)
	ok(t, w, pass(1))
	w.Server().Tick(w.Now() + 20)
	if l := w.Server().Out(); len(l) != 1 || l[0].Address != 99 {
		t.Errorf("P31.3: the address of what is forged: %v", l)
	}
	told(t, w, deliver(2), api.ErrReplay, 0)
}

func TestMove(t *testing.T) {
	w := made(t, conf, 2)
	for _, e := range []world.Event{{Kind: world.Move, N: -1}, {Kind: world.Move, Viewer: 2, N: 1}, {Kind: world.Move, Viewer: -1, N: 1}} {
		told(t, w, e, api.ErrRange, 0)
	}
	addresses := func() []int {
		w.Server().Tick(w.Now() + 20)
		var l []int
		for _, d := range w.Server().Out() {
			l = append(l, d.Address)
		}
		return l
	}
	ok(t, w, pass(1), world.Event{Kind: world.Move, Viewer: 0, N: 44}, deliver(0), deliver(0))
	if l := addresses(); !slices.Equal(l, []int{0, 10}) {
		t.Errorf("P31.1: addresses at first: %v", l)
	}
	ok(t, w, world.Event{Kind: world.Fall}, world.Event{Kind: world.Boot}, pass(1), deliver(0), deliver(0))
	if l := addresses(); l[1] != 10 || len(l) != 2 {
		t.Errorf("P31.3: %v", l)
	}
	w = made(t, conf, 2)
	ok(t, w, world.Event{Kind: world.Move, Viewer: 1, N: 0}, world.Event{Kind: world.Move, Viewer: 0, N: 44}, pass(1), deliver(0), deliver(0))
	if l := addresses(); !slices.Equal(l, []int{44, 0}) {
		t.Errorf("P31.3: addresses behind Move: %v", l)
	}
}

func TestOtherKinds(t *testing.T) {
	w := made(t, conf, 1)
	for _, kind := range []int{0, -1, 14, 15, math.MaxInt, math.MinInt} {
		told(t, w, world.Event{Kind: kind}, api.ErrForm, 0)
	}
	w.Do(world.Event{Kind: world.Fall})
	told(t, w, world.Event{Kind: 14}, api.ErrForm, 0)
	if l := w.Run(); len(l) != 0 {
		t.Errorf("P31.4: Run of none: %v", l)
	}
	want := []world.Told{{Event: 0, Errno: api.ErrDown}, {Event: 1}, {Event: 2, N: 1}, {Event: 3, Errno: api.ErrNone}}
	if l := w.Run(pass(1), world.Event{Kind: world.Boot}, pass(1), deliver(1)); !slices.Equal(l, want) {
		t.Errorf("P31.4: %v", l)
	}
}

func sameEvent(a, b world.Event) bool {
	falls := slices.EqualFunc(a.Falls, b.Falls, func(x, y disk.Outcome) bool { return x.Keep == y.Keep && bytes.Equal(x.Junk, y.Junk) })
	return a.Kind == b.Kind && a.Viewer == b.Viewer && a.N == b.N && bytes.Equal(a.Bytes, b.Bytes) && cmd.Same(a.Command, b.Command) && falls
}

func TestEvents(t *testing.T) {
	speed := func(x float64) cmd.Command { return cmd.Command{Kind: cmd.GoSpeed, Speed: x} }
	fall := func(keep int, junk string) []disk.Outcome { return []disk.Outcome{{Keep: keep, Junk: []byte(junk)}} }
	for _, c := range []struct {
		in   string
		want world.Event
	}{
		{"\x00abc", output("abc")}, {"\x01\x7Fb\x7F", output("\x1bb\x1b")}, {"\x12\x00\xFF\x7E", output("\x00\xFF\x7E")}, {"\x03xyz", output("xyz")}, {"\xF3xyz", output("xyz")},
		{"\x04\x05\x07\x08", output("\x1b[5;7H")}, {"\x14\x27\x4F\x27", output("\x1b[39;79g")}, {"\x04\x28\x50\x28", output("\x1b[0;0@")}, {"\x04\xFF\xFF\xFF", output("\x1b[15;15O")},
		{"\x05\x00zz", pass(1)}, {"\x06\x13zz", pass(20)}, {"\x07\x14zz", pass(1)}, {"\x17\xFFzz", pass(16)},
		{"\x08\x00\x00z", ask(0, cmd.Command{Kind: cmd.GoLive})}, {"\x08\x01\x01z", ask(1, cmd.Command{Kind: cmd.GoPause})}, {"\x08\x05\x08z", ask(2, cmd.Command{Kind: cmd.GoPlay})}, {"\x08\x03\x03\xFF", ask(0, cmd.Command{Kind: cmd.GoSeek, Time: 1020})}, {"\x08\x00\x04\x28", ask(0, speed(1.5))}, {"\x08\x00\x04\x00", ask(0, speed(-1))}, {"\x08\x00\x04\x10", ask(0, speed(0))}, {"\x08\x00\x04\xFF", ask(0, speed(14.9375))}, {"\x08\x00\x04\x11", ask(0, speed(0.0625))},
		{"\x08\x00\x05\x00", ask(0, speed(0))}, {"\x08\x00\x05\x01", ask(0, speed(math.Float64frombits(1<<52)))}, {"\x08\x00\x0B\xFF", ask(0, speed(math.Float64frombits(255<<52)))},
		{"\x09\x07zz", deliver(7)}, {"\x0A\xFFzz", deliver(255)}, {"\x0B\x07\x02z", world.Event{Kind: world.Drop, N: 7}}, {"\x0B\x07\x03z", world.Event{Kind: world.Double, N: 7}}, {"\x0Czzz", world.Event{Kind: world.SyncNow}},
		{"\x0D\x02\x41\x05", world.Event{Kind: world.Fall, Falls: fall(5, "AAA")}}, {"\x0D\x03\x41\xFF", world.Event{Kind: world.ArmFall, N: 0x42, Falls: fall(255, "AAA")}}, {"\x0Ezzz", world.Event{Kind: world.Boot}}, {"\x0F\x05\x2Cz", world.Event{Kind: world.Move, Viewer: 2, N: 44}}, {"\xFF\x04\xFFz", world.Event{Kind: world.Move, Viewer: 1, N: 255}},
	} {
		for _, tail := range []string{"", "\x05", "\x05\x05\x05"} {
			if l := world.Events([]byte(c.in + tail)); len(l) != 1 || !sameEvent(l[0], c.want) {
				t.Errorf("P31.5: % X: %v, want %v", c.in, l, c.want)
			}
		}
	}
	if l := world.Events([]byte("\x0C\x00")); len(l) != 0 {
		t.Errorf("P31.5: of less than one: %v", l)
	}
	if l := world.Events(bytes.Repeat([]byte{12}, 4*301)); len(l) != 300 {
		t.Errorf("P31.5: %d events", len(l))
	}
	if l := world.Events([]byte("\x05\x00\x00\x00\x0C\x00\x00\x00\x0E\x00\x00\x00")); len(l) != 3 || l[0].Kind != world.Pass || l[1].Kind != world.SyncNow || l[2].Kind != world.Boot {
		t.Errorf("P31.5: %v", l)
	}
}

// small is a Conf whose segments rotate and go.
func small(r *rand.Rand) server.Conf {
	return server.Conf{Rows: 1 + r.Intn(3), Cols: 1 + r.Intn(9), Film: film.Conf{Conf: log.Conf{Segment: 64 + r.Intn(400), Keep: 300 + r.Intn(2000), Age: 1 + uint64(r.Intn(60))}, Every: 1 + r.Intn(6)}, Resend: 1 + uint64(r.Intn(12)), Room: 1000 + r.Intn(9000)}
}

// calm keeps the disk up: no falls, no boots.
func calm(l []world.Event) []world.Event {
	return slices.DeleteFunc(l, func(e world.Event) bool {
		return e.Kind == world.Fall || e.Kind == world.ArmFall || e.Kind == world.Boot
	})
}

func script(r *rand.Rand, n int) []world.Event {
	b := make([]byte, 4*n)
	r.Read(b)
	for i := range b {
		// Low numbers of datagrams are there more often.
		if i%4 == 1 && r.Intn(2) == 0 {
			b[i] %= 8
		}
	}
	return world.Events(b)
}

func TestWhatAViewerShowsStoodAtItsDeck(t *testing.T) {
	r := rand.New(rand.NewSource(1))
	for range 150 {
		w := made(t, small(r), 3)
		states := [3]map[uint64]sync.State{{}, {}, {}}
		var before [3]uint64
		for _, e := range script(r, 200) {
			n := 1
			if e.Kind == world.Pass {
				n, e.N = e.N, 1
			}
			for range n {
				if x := w.Do(e); e.Kind == world.Boot && x.Errno == api.OK {
					states, before = [3]map[uint64]sync.State{{}, {}, {}}, [3]uint64{}
				}
				for i := range 3 {
					if w.Up() {
						x, _ := w.Server().Target(i)
						states[i][x.Num] = x
					}
					shown := w.Viewer(i).Shown()
					if shown.Num < before[i] || shown.Num > 0 && !same(shown, states[i][shown.Num]) {
						t.Fatalf("P31.7, P0.10: viewer %d shows %v, its deck stood at %v", i, shown, states[i][shown.Num])
					}
					before[i] = shown.Num
				}
				if d := w.Disk(); d.Used() > d.Room() {
					t.Fatal("P0.12: more than the room is used")
				}
			}
		}
	}
}

func TestWhatIsForgedChangesNothing(t *testing.T) {
	r := rand.New(rand.NewSource(2))
	for range 40 {
		c := small(r)
		l := calm(script(r, 150))
		a, b := made(t, c, 3), made(t, c, 3)
		for _, e := range l {
			if e.Kind == world.Drop || e.Kind == world.Double {
				continue
			}
			x := a.Do(e)
			if y := b.Do(e); x != y {
				t.Fatalf("P31.7: %v: %v, %v", e, x, y)
			}
			junk := make([]byte, r.Intn(60))
			r.Read(junk)
			n := r.Intn(2)
			before := b.Flying(n == 0)
			b.Do(world.Event{Kind: world.Forge, Viewer: r.Intn(3), N: n, Bytes: junk})
			if x := b.Do(deliver(2*before + n)); x.Errno != api.ErrTag && x.Errno != api.ErrShort {
				t.Fatalf("P31.3: what is forged: %v", x)
			}
		}
		for i := range 3 {
			if !same(a.Viewer(i).Shown(), b.Viewer(i).Shown()) {
				t.Fatalf("P31.7: viewer %d: %v, %v", i, a.Viewer(i).Shown(), b.Viewer(i).Shown())
			}
		}
	}
}

func TestInTheEnd(t *testing.T) {
	r := rand.New(rand.NewSource(3))
	for range 100 {
		w := made(t, small(r), 3)
		w.Run(script(r, 200)...)
		for range 5 {
			w.Do(world.Event{Kind: world.ArmFall, N: math.MaxInt})
			if !w.Up() {
				w.Do(world.Event{Kind: world.Boot})
			}
		}
		if !w.Up() {
			t.Fatal("P31.2: it does not boot")
		}
		settle(t, w, 40)
		for i := range 3 {
			target, _ := w.Server().Target(i)
			shown := w.Viewer(i).Shown()
			if target.Mode != deck.Playing && !same(shown, target) || w.Viewer(i).Waits() || w.Viewer(i).Asked() != w.Server().Done(i) {
				t.Fatalf("P31.7, P0.11: viewer %d shows state %d of %d; asked %d, done %d", i, shown.Num, target.Num, w.Viewer(i).Asked(), w.Server().Done(i))
			}
			if target.Mode == deck.OnAir && !screen.Same(shown.Screen, w.Server().Screen()) {
				t.Fatalf("P0.11: viewer %d OnAir shows %v", i, shown)
			}
		}
	}
}

func TestWhoPlaysComesToTheEnd(t *testing.T) {
	w := made(t, conf, 1)
	for range 10 {
		ok(t, w, output("a"))
		settle(t, w, 3)
	}
	for _, c := range []cmd.Command{{Kind: cmd.GoSeek, Time: 2}, {Kind: cmd.GoSpeed, Speed: 0.75}, {Kind: cmd.GoPlay}} {
		ok(t, w, ask(0, c))
		settle(t, w, 3)
	}
	if s := w.Viewer(0).Shown(); s.Mode != deck.Playing || w.Viewer(0).Waits() {
		t.Errorf("P0.11: %v", s)
	}
	settle(t, w, 60)
	if s := w.Viewer(0).Shown(); s.Mode != deck.OnAir || !screen.Same(s.Screen, w.Server().Screen()) {
		t.Errorf("P0.11: %v", s)
	}
}

func TestTheExamples(t *testing.T) {
	w := made(t, conf, 1)
	ok(t, w, output("A"), pass(1))
	scan, e := w.Server().Film().Read(1)
	if e != api.OK || len(scan.Parts) != 1 || scan.Parts[0].Seq != 1 || scan.Parts[0].Kind != rec.Key {
		t.Errorf("P0.8: %v, %d", scan, e)
	}
	land(w)
	ok(t, w, ask(0, cmd.Command{Kind: cmd.GoPause}))
	settle(t, w, 3)
	ok(t, w, ask(0, cmd.Command{Kind: cmd.GoSeek, Time: 1}))
	for range 10 {
		ok(t, w, output("B"))
		settle(t, w, 2)
	}
	if s := w.Viewer(0).Shown(); s.Mode != deck.Paused || row(s.Screen) != "A" {
		t.Errorf("P0.9: %v", s)
	}
}

// run is what is kept of a film, as far as the disk does not fall: the first line of each of its frames.
func run(t *testing.T, f *film.Film) map[uint64]string {
	t.Helper()
	all := map[uint64]string{}
	lo, hi, there := seek.Ends(f)
	for time := lo; there && time <= hi; time++ {
		got, e := seek.At(f, nil, time)
		if e == api.ErrDown {
			break
		}
		if e != api.OK || got.Decoded > f.Every() {
			t.Fatalf("P0.9: At(%d): %v, %d", time, got, e)
		}
		all[got.Seq] = row(got.Screen)
	}
	return all
}

func TestFallsOfAScript(t *testing.T) {
	r := rand.New(rand.NewSource(4))
	for range 60 {
		c := small(r)
		w := made(t, c, 1)
		ended := uint64(0)
		for range 8 {
			kept := map[uint64]string{}
			w.Do(world.Event{Kind: world.ArmFall, N: 20 + r.Intn(200), Falls: []disk.Outcome{{Keep: r.Intn(60), Junk: []byte{byte(r.Uint32())}}}})
			synced := ended
			for w.Up() {
				w.Do(output([]string{"a", "b", "\r", "\x1b[2J"}[r.Intn(4)]))
				w.Do(pass(1 + r.Intn(3)))
				if w.Up() && r.Intn(5) == 0 && w.Do(world.Event{Kind: world.SyncNow}).Errno == api.OK {
					synced, _, _ = w.Server().Film().Last()
				}
				if w.Up() && r.Intn(3) == 0 {
					for seq, line := range run(t, w.Server().Film()) {
						kept[seq] = line
					}
				}
			}
			w.Do(world.Event{Kind: world.Boot})
			if !w.Up() {
				t.Fatal("P31.2: it does not boot")
			}
			f := w.Server().Film()
			last, _, there := f.Last()
			if there && last < synced || !there && synced > 0 {
				t.Fatalf("P0.8: it ends with %d, %d was synced", last, synced)
			}
			segs := f.Segs()
			for seq, line := range run(t, f) {
				if was, told := kept[seq]; told && was != line {
					t.Fatalf("P0.8: frame %d is %q, was %q", seq, line, was)
				}
			}
			if w.Disk().Used() > w.Disk().Room() {
				t.Fatal("P0.12: more than the room is used")
			}
			again, e := film.Open(w.Disk(), c.Film)
			if e != api.OK || !slices.Equal(again.Segs(), segs) {
				t.Fatalf("P0.8: opened again: %v, %v", again.Segs(), segs)
			}
			ended = last
		}
	}
}

func TestNothingIsShared(t *testing.T) {
	w := made(t, conf, 1)
	e := output("abc")
	w.Do(e)
	e.Bytes[0] = 'x'
	falls := []disk.Outcome{{Keep: 9, Junk: []byte("jk")}}
	w.Do(pass(1))
	w.Do(world.Event{Kind: world.ArmFall, N: 50, Falls: falls})
	falls[0].Keep = 0
	b := []byte{0, 'a', 'b', 'c', 13, 0, 65, 1}
	l := world.Events(b)
	b[1], b[6] = 'x', 'x'
	if row(w.Server().Screen()) != "abc" || !sameEvent(l[0], output("abc")) || string(l[1].Falls[0].Junk) != "AAA" {
		t.Errorf("P31.6: %q, %v", row(w.Server().Screen()), l)
	}
	if rate.Bits(l[0].Command.Speed) != 0 {
		t.Error("P31.5: a Command of an Output")
	}
}

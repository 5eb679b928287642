package server_test

import (
	"bytes"
	"math"
	"math/rand"
	"slices"
	"strings"
	"testing"

	"tickertape/api"
	"tickertape/cmd"
	"tickertape/deck"
	"tickertape/disk"
	"tickertape/film"
	"tickertape/frag"
	"tickertape/log"
	"tickertape/peer"
	"tickertape/pkt"
	"tickertape/screen"
	"tickertape/seek"
	"tickertape/server"
	"tickertape/sync"
)

var conf = server.Conf{Rows: 2, Cols: 8, Film: film.Conf{Conf: log.Conf{Segment: 4096, Keep: 1 << 18, Age: 1000}, Every: 5}, Resend: 10, Room: 1 << 20}

func newDisk(t *testing.T, room int) *disk.Disk {
	t.Helper()
	d, e := disk.New(room)
	if e != api.OK {
		t.Fatal("P5.1:", e)
	}
	return d
}

func made(t *testing.T, c server.Conf) (*server.Server, *disk.Disk) {
	t.Helper()
	d := newDisk(t, c.Room)
	s, e := server.New(d, c)
	if s == nil || e != api.OK {
		t.Fatal("P29.1: New:", e)
	}
	return s, d
}

// client is a viewer's end that a test moves by hand.
type client struct {
	num      int
	peer     *peer.Peer
	gather   *frag.Gather
	receiver *sync.Receiver
	ack      uint64
	ids      []uint64
}

func join(t *testing.T, s *server.Server) *client {
	t.Helper()
	key := []byte("key")
	num, e := s.Join(key)
	p, e2 := peer.New(key, 2, num, 0)
	if e != api.OK || e2 != api.OK {
		t.Fatal("P29.2: Join:", e, e2)
	}
	return &client{num: num, peer: p, gather: frag.NewGather(), receiver: sync.NewReceiver()}
}

func (c *client) packet(t *testing.T, r sync.Report) []byte {
	t.Helper()
	b, e := sync.EncodeReport(r)
	if e != api.OK {
		t.Fatal("P28.1:", e)
	}
	b, e = c.peer.Send(b)
	if e != api.OK {
		t.Fatal("P27.1:", e)
	}
	return b
}

// report tells the server what the client shows, and asks what x is, if num is not 0.
func (c *client) report(t *testing.T, s *server.Server, num uint64, x cmd.Command) {
	t.Helper()
	r := sync.Report{Have: c.receiver.Shown().Num, Num: num}
	if num > 0 {
		r.Command, _ = cmd.Encode(x)
	}
	if e := s.Take(c.num, 5, c.packet(t, r)); e != api.OK {
		t.Fatal("P29.3: Take:", e)
	}
}

// take takes the client's datagrams of l; how many there were, and of which addresses.
func (c *client) take(t *testing.T, l []server.Datagram) (int, []int) {
	t.Helper()
	var from []int
	for _, d := range l {
		if d.Viewer != c.num {
			continue
		}
		from = append(from, d.Address)
		part, e := c.peer.Take(0, d.Bytes)
		if e != api.OK {
			t.Fatal("P27.3:", e)
		}
		message, whole, e := c.gather.Put(part)
		if e != api.OK {
			t.Fatal("P26.4:", e)
		}
		if c.ids = append(c.ids, c.gather.ID()); !whole {
			continue
		}
		u, e := sync.DecodeUpdate(message)
		if e != api.OK {
			t.Fatal("P28.1:", e)
		}
		c.ack = u.Ack
		if _, e := c.receiver.Take(u); e != api.OK {
			t.Fatal("P28.3:", e)
		}
	}
	return len(from), from
}

func tick(t *testing.T, s *server.Server, now uint64) []server.Datagram {
	t.Helper()
	if e := s.Tick(now); e != api.OK || s.Now() != now {
		t.Fatalf("P29.4: Tick(%d): %d", now, e)
	}
	return s.Out()
}

func output(t *testing.T, s *server.Server, text string) {
	t.Helper()
	if e := s.Output([]byte(text)); e != api.OK {
		t.Fatal("P29.2: Output:", e)
	}
}

func row(x screen.Screen) string {
	if l := screen.Text(x); len(l) > 0 {
		return l[0]
	}
	return "none"
}

func target(t *testing.T, s *server.Server, num int) sync.State {
	t.Helper()
	x, ok := s.Target(num)
	if !ok {
		t.Fatal("P29.5: Target of", num)
	}
	return x
}

func is(t *testing.T, p string, x sync.State, num uint64, mode int, pos uint64, line string) {
	t.Helper()
	if x.Num != num || x.Mode != mode || x.Pos != pos || row(x.Screen) != line {
		t.Errorf("%s: state %d, mode %d at %d: %q; want state %d, mode %d at %d: %q", p, x.Num, x.Mode, x.Pos, row(x.Screen), num, mode, pos, line)
	}
}

func TestMayConf(t *testing.T) {
	for i, good := range []func(c *server.Conf){func(c *server.Conf) {}, func(c *server.Conf) { c.Rows, c.Cols = 60, 200 }, func(c *server.Conf) { c.Rows, c.Cols = 1, 1 }, func(c *server.Conf) { c.Resend = 1 }, func(c *server.Conf) { c.Resend = 1 << 20 }, func(c *server.Conf) { c.Room = 0 }, func(c *server.Conf) { c.Room = api.MaxDisk }} {
		c := conf
		if good(&c); !server.MayConf(c) {
			t.Errorf("P29.1: good change %d", i)
		}
	}
	for i, bad := range []func(c *server.Conf){
		func(c *server.Conf) { c.Rows = 0 }, func(c *server.Conf) { c.Rows = 61 }, func(c *server.Conf) { c.Cols = 0 }, func(c *server.Conf) { c.Cols = 201 }, func(c *server.Conf) { c.Cols = -1 }, func(c *server.Conf) { c.Film.Every = 0 }, func(c *server.Conf) { c.Film.Segment = 0 }, func(c *server.Conf) { c.Resend = 0 }, func(c *server.Conf) { c.Resend = 1<<20 + 1 }, func(c *server.Conf) { c.Room = -1 }, func(c *server.Conf) { c.Room = api.MaxDisk + 1 }, func(c *server.Conf) { *c = server.Conf{} },
	} {
		c := conf
		bad(&c)
		d := newDisk(t, 100)
		if s, e := server.New(d, c); server.MayConf(c) || s != nil || e != api.ErrRange || d.Ops() != 0 {
			t.Errorf("P29.1: bad change %d: %d", i, e)
		}
	}
}

func TestNew(t *testing.T) {
	s, d := made(t, conf)
	blank, _ := screen.Blank(2, 8)
	if s.Now() != 0 || !screen.Same(s.Screen(), blank) || len(s.Out()) != 0 || s.Failed() != api.OK || len(s.Film().Segs()) != 0 || s.Sync() != api.OK {
		t.Errorf("P29.1: %v", s.Screen())
	}
	output(t, s, "abc")
	tick(t, s, 7)
	tick(t, s, 9)
	if s.Sync(); d.Sure("s000001") != d.Used()-10 {
		t.Errorf("P29.5: Sync: %d sure of %d", d.Sure("s000001"), d.Used())
	}
	again, e := server.New(d, conf)
	if e != api.OK || again.Now() != 7 || !screen.Same(again.Screen(), blank) || len(again.Film().Segs()) != 1 {
		t.Errorf("P29.1: of a disk with a film: %d, now %d", e, again.Now())
	}
	d.Crash()
	if s, e := server.New(d, conf); s != nil || e != api.ErrDown {
		t.Errorf("P29.1: of a disk that is down: %d", e)
	}
	d.Reboot()
	d.Truncate("man", 3)
	if s, e := server.New(d, conf); s != nil || e != api.ErrForm {
		t.Errorf("P29.1: of a manifest that is none: %d", e)
	}
}

func TestOutputAndResize(t *testing.T) {
	s, _ := made(t, conf)
	output(t, s, "ab\x1b[6n\xE2")
	output(t, s, "\x82\xAC")
	if x := s.Screen(); row(x) != "ab\u20AC" {
		t.Errorf("P29.2: %q", row(x))
	}
	for _, c := range [][2]int{{0, 1}, {1, 0}, {61, 1}, {1, 201}} {
		if e := s.Resize(c[0], c[1]); e != api.ErrRange || s.Screen().Rows != 2 {
			t.Errorf("P29.2: Resize(%v): %d", c, e)
		}
	}
	if e := s.Resize(3, 2); e != api.OK || s.Screen().Rows != 3 || s.Screen().Cols != 2 || row(s.Screen()) != "ab" {
		t.Errorf("P29.2: Resize: %d", e)
	}
}

func TestJoinAndLeave(t *testing.T) {
	s, _ := made(t, conf)
	for want := range api.MaxViewers {
		if num, e := s.Join([]byte("key")); num != want || e != api.OK {
			t.Errorf("P29.2: Join: %d, %d", num, e)
		}
	}
	if num, e := s.Join([]byte("key")); num != 0 || e != api.ErrBusy {
		t.Errorf("P29.2: Join of one too many: %d, %d", num, e)
	}
	for _, num := range []int{-1, api.MaxViewers, math.MinInt, math.MaxInt} {
		if x, ok := s.Target(num); s.Leave(num) || ok || x.Num != 0 || s.Done(num) != 0 || s.Take(num, 0, nil) != api.ErrNone {
			t.Errorf("P29.2: viewer %d", num)
		}
	}
	if !s.Leave(5) || s.Leave(5) || !s.Leave(2) || s.Take(2, 0, nil) != api.ErrNone {
		t.Error("P29.2: Leave")
	}
	if _, ok := s.Target(2); ok {
		t.Error("P29.5: Target of one that is gone")
	}
	for _, want := range []int{2, 5} {
		if num, e := s.Join(nil); num != want || e != api.OK {
			t.Errorf("P29.2: Join in a place that is free: %d, %d", num, e)
		}
	}
}

func TestTake(t *testing.T) {
	s, _ := made(t, conf)
	join(t, s)
	c := join(t, s)
	good := c.packet(t, sync.Report{})
	wrong, _ := pkt.Seal([]byte("key"), pkt.Packet{Dir: 1, Viewer: 1, Num: 9, Body: []byte{0, 0}})
	torn := bytes.Clone(good)
	torn[3] ^= 1
	junk, _ := c.peer.Send([]byte("no report"))
	late := c.packet(t, sync.Report{})
	for i, x := range []struct {
		from int
		b    []byte
		e    api.Errno
	}{{1, nil, api.ErrShort}, {1, torn, api.ErrTag}, {1, wrong, api.ErrForm}, {1, good, api.OK}, {1, good, api.ErrReplay}, {8, junk, api.ErrForm}, {9, junk, api.ErrReplay}} {
		if e := s.Take(1, x.from, x.b); e != x.e {
			t.Errorf("P29.3: case %d: %d, want %d", i, e, x.e)
		}
	}
	if e := s.Take(0, 1, late); e != api.ErrForm {
		t.Errorf("P29.3: of another viewer: %d", e)
	}
	if n, from := c.take(t, tick(t, s, 1)); n != 1 || from[0] != 8 {
		t.Errorf("P29.3: the address of what is no report: %v", from)
	}
	if e := s.Take(1, -1, late); e != api.OK {
		t.Errorf("P29.3: %d", e)
	}
	output(t, s, "a")
	if n, from := c.take(t, tick(t, s, 2)); n != 1 || from[0] != 8 {
		t.Errorf("P29.3: an address below 0: %v", from)
	}
}

func TestTickTime(t *testing.T) {
	s, _ := made(t, conf)
	tick(t, s, 5)
	tick(t, s, 5)
	for _, now := range []uint64{4, 0, api.MaxTick + 1, math.MaxUint64} {
		if e := s.Tick(now); e != api.ErrRange || s.Now() != 5 {
			t.Errorf("P29.4: Tick(%d): %d, now %d", now, e, s.Now())
		}
	}
	tick(t, s, api.MaxTick)
}

func TestTheFilm(t *testing.T) {
	s, _ := made(t, conf)
	output(t, s, "A")
	tick(t, s, 0)
	scan, e := s.Film().Read(1)
	if e != api.OK || len(scan.Parts) != 1 || scan.Parts[0].Seq != 1 || scan.Parts[0].Kind != 1 {
		t.Fatalf("P29.4: %v, %d", scan, e)
	}
	tick(t, s, 1)
	output(t, s, "B")
	tick(t, s, 2)
	for time, want := range map[uint64]string{0: "A", 1: "A", 2: "AB", 9: "AB"} {
		if got, e := seek.At(s.Film(), nil, time); row(got.Screen) != want || e != api.OK {
			t.Errorf("P29.4: at %d: %q, %d", time, row(got.Screen), e)
		}
	}
	c := conf
	c.Film.Conf = log.Conf{Segment: 64, Keep: 100, Age: 1}
	s, _ = made(t, c)
	for now := range uint64(9) {
		output(t, s, "x")
		tick(t, s, now)
		if l := s.Film().Segs(); len(l) > 2 {
			t.Errorf("P29.4: nothing is let go: %v", l)
		}
	}
}

func TestOnAir(t *testing.T) {
	s, _ := made(t, conf)
	c := join(t, s)
	if x, _ := s.Target(0); x.Num != 0 || x.Screen.Rows != 0 {
		t.Errorf("P29.5: Target ahead of the first Tick: %v", x)
	}
	if n, _ := c.take(t, tick(t, s, 3)); n != 0 {
		t.Errorf("P29.4: %d datagrams without an address", n)
	}
	is(t, "P29.4", target(t, s, 0), 1, deck.OnAir, 3, "")
	tick(t, s, 5)
	is(t, "P29.4", target(t, s, 0), 1, deck.OnAir, 3, "")
	output(t, s, "ab")
	tick(t, s, 6)
	output(t, s, "\r")
	tick(t, s, 7)
	tick(t, s, 8)
	is(t, "P29.4", target(t, s, 0), 3, deck.OnAir, 7, "ab")
	late := join(t, s)
	tick(t, s, 9)
	is(t, "P29.4", target(t, s, late.num), 1, deck.OnAir, 7, "ab")
	c.report(t, s, 0, cmd.Command{})
	if n, _ := c.take(t, tick(t, s, 10)); n != 1 {
		t.Errorf("P29.4: %d datagrams", n)
	}
	is(t, "P29.7", c.receiver.Shown(), 3, deck.OnAir, 7, "ab")
}

func TestResend(t *testing.T) {
	s, _ := made(t, conf)
	c := join(t, s)
	c.report(t, s, 0, cmd.Command{})
	for _, x := range []struct {
		now uint64
		n   int
	}{{1, 1}, {2, 0}, {10, 0}, {11, 1}, {12, 0}, {20, 0}, {25, 1}, {34, 0}, {35, 1}} {
		if n, _ := c.take(t, tick(t, s, x.now)); n != x.n {
			t.Errorf("P29.4: at %d %d datagrams", x.now, n)
		}
	}
	if !slices.Equal(c.ids, []uint64{1, 1, 1, 1}) {
		t.Errorf("P29.4: the same bytes have ids %v", c.ids)
	}
	output(t, s, "a")
	if n, _ := c.take(t, tick(t, s, 36)); n != 1 || c.ids[4] != 2 {
		t.Errorf("P29.4: a new state: %d datagrams, ids %v", n, c.ids)
	}
	// The base changes the bytes, not the state: nothing is sent ahead of its time, but with another id then.
	s.Take(0, 5, c.packet(t, sync.Report{Have: 1}))
	if n, _ := c.take(t, tick(t, s, 45)); n != 0 {
		t.Errorf("P29.4: %d datagrams", n)
	}
	if n, _ := c.take(t, tick(t, s, 46)); n != 1 || c.ids[5] != 3 {
		t.Errorf("P29.4: another base: %d datagrams, ids %v", n, c.ids)
	}
	c.report(t, s, 0, cmd.Command{})
	if n, _ := c.take(t, tick(t, s, 99)); n != 0 {
		t.Errorf("P29.4: %d datagrams of what is shown", n)
	}
}

func TestLongMessagesComeInParts(t *testing.T) {
	c := conf
	c.Rows, c.Cols = 20, 80
	s, _ := made(t, c)
	x := join(t, s)
	x.report(t, s, 0, cmd.Command{})
	output(t, s, strings.Repeat("abcdefg", 200))
	l := s.Out()
	if len(l) != 0 {
		t.Errorf("P29.5: Out ahead of a Tick: %d", len(l))
	}
	s.Tick(1)
	s.Tick(1)
	if n, _ := x.take(t, s.Out()); n < 10 || !screen.Same(x.receiver.Shown().Screen, s.Screen()) {
		t.Errorf("P29.4: %d datagrams", n)
	}
	if l := s.Out(); len(l) != 0 {
		t.Errorf("P29.5: Out twice: %d", len(l))
	}
}

func TestCommands(t *testing.T) {
	s, _ := made(t, conf)
	c := join(t, s)
	for now, text := range []string{"a", "b", "c", "d", "e"} {
		output(t, s, text)
		tick(t, s, uint64(now)*10)
	}
	if s.Done(0) != 0 {
		t.Errorf("P29.3: Done: %d", s.Done(0))
	}
	c.report(t, s, 1, cmd.Command{Kind: cmd.GoPause})
	if s.Done(0) != 1 {
		t.Errorf("P29.3: Done: %d", s.Done(0))
	}
	is(t, "P29.3", target(t, s, 0), 5, deck.OnAir, 40, "abcde")
	c.take(t, tick(t, s, 41))
	is(t, "P29.4", target(t, s, 0), 6, deck.Paused, 40, "abcde")
	is(t, "P29.7", c.receiver.Shown(), 6, deck.Paused, 40, "abcde")
	if c.ack != 1 {
		t.Errorf("P29.4: Ack %d", c.ack)
	}
	// The same number, or one too far: nothing.
	c.report(t, s, 1, cmd.Command{Kind: cmd.GoLive})
	c.report(t, s, 3, cmd.Command{Kind: cmd.GoLive})
	output(t, s, "f")
	tick(t, s, 42)
	is(t, "P29.3", target(t, s, 0), 6, deck.Paused, 40, "abcde")
	c.report(t, s, 2, cmd.Command{Kind: cmd.GoSeek, Time: 25})
	c.take(t, tick(t, s, 43))
	is(t, "P29.4", target(t, s, 0), 7, deck.Paused, 20, "abc")
	c.report(t, s, 3, cmd.Command{Kind: cmd.GoPlay})
	tick(t, s, 43)
	is(t, "P29.4", target(t, s, 0), 8, deck.Playing, 20, "abc")
	tick(t, s, 47)
	is(t, "P29.4", target(t, s, 0), 8, deck.Playing, 20, "abc")
	tick(t, s, 48)
	is(t, "P29.4", target(t, s, 0), 9, deck.Playing, 30, "abcd")
	c.report(t, s, 4, cmd.Command{Kind: cmd.GoSpeed, Speed: 2})
	c.take(t, tick(t, s, 53))
	is(t, "P29.4", target(t, s, 0), 10, deck.Playing, 40, "abcde")
	tick(t, s, 54)
	is(t, "P29.4", target(t, s, 0), 11, deck.OnAir, 42, "abcdef")
	if s.Done(0) != 4 {
		t.Errorf("P29.3: Done: %d", s.Done(0))
	}
}

func TestACommandThatCannotBeDoneIsDone(t *testing.T) {
	s, _ := made(t, conf)
	c := join(t, s)
	c.report(t, s, 0, cmd.Command{})
	c.take(t, tick(t, s, 1))
	for i, x := range []cmd.Command{{Kind: cmd.GoPlay}, {Kind: cmd.GoSpeed, Speed: math.NaN()}, {Kind: cmd.GoSpeed, Speed: -1}, {Kind: cmd.GoSpeed, Speed: math.Inf(1)}, {Kind: cmd.GoSpeed, Speed: math.SmallestNonzeroFloat64}, {Kind: cmd.GoSpeed, Speed: math.Copysign(0, -1)}, {Kind: cmd.GoSeek, Time: 0}, {Kind: cmd.GoLive}, {Kind: cmd.GoSpeed, Speed: 2}} {
		num := uint64(i) + 1
		c.report(t, s, num, x)
		if n, _ := c.take(t, tick(t, s, 1)); n != 1 || s.Done(0) != num || c.ack != num {
			t.Errorf("P29.4: %v: %d datagrams, Done %d, Ack %d", x, n, s.Done(0), c.ack)
		}
		is(t, "P29.4", c.receiver.Shown(), num+1, deck.OnAir, 1, "")
		if n, _ := c.take(t, tick(t, s, 1)); n != 0 {
			t.Errorf("P29.4: %v is answered twice", x)
		}
	}
	r := sync.Report{Num: 10, Command: []byte("nonsense!")}
	s.Take(0, 5, c.packet(t, r))
	c.take(t, tick(t, s, 1))
	if s.Done(0) != 10 || c.ack != 10 {
		t.Errorf("P29.3: what is no command: Done %d, Ack %d", s.Done(0), c.ack)
	}
	is(t, "P29.4", c.receiver.Shown(), 11, deck.OnAir, 1, "")
}

func TestCommandsAheadOfTheFirstTick(t *testing.T) {
	s, _ := made(t, conf)
	c := join(t, s)
	c.report(t, s, 1, cmd.Command{Kind: cmd.GoPause})
	if n, _ := c.take(t, tick(t, s, 5)); n != 1 || c.ack != 1 {
		t.Errorf("P29.4: %d datagrams, Ack %d", n, c.ack)
	}
	// Paused at 0, which is ahead of all, and held by the Tick.
	is(t, "P29.4", c.receiver.Shown(), 1, deck.Paused, 5, "")
}

func TestAFailedFilm(t *testing.T) {
	s, d := made(t, conf)
	onAir, paused := join(t, s), join(t, s)
	output(t, s, "a")
	tick(t, s, 1)
	onAir.report(t, s, 0, cmd.Command{})
	paused.report(t, s, 1, cmd.Command{Kind: cmd.GoPause})
	l := tick(t, s, 2)
	onAir.take(t, l)
	paused.take(t, l)
	segs := s.Film().Segs()
	d.Crash()
	output(t, s, "b")
	onAir.report(t, s, 0, cmd.Command{})
	paused.report(t, s, 2, cmd.Command{Kind: cmd.GoSeek, Time: 1})
	l = tick(t, s, 3)
	onAir.take(t, l)
	if n, _ := paused.take(t, l); n != 1 || paused.ack != 2 {
		t.Errorf("P29.4: the command is not answered: %d datagrams, Ack %d", n, paused.ack)
	}
	if s.Failed() != api.ErrDown || !slices.Equal(s.Film().Segs(), segs) {
		t.Errorf("P29.4: Failed %d, %v", s.Failed(), s.Film().Segs())
	}
	is(t, "P29.7", onAir.receiver.Shown(), 2, deck.OnAir, 3, "ab")
	is(t, "P29.4", paused.receiver.Shown(), 3, deck.Paused, 1, "a")
	d.Reboot()
	tick(t, s, 4)
	if s.Failed() != api.OK {
		t.Errorf("P29.4: Failed %d", s.Failed())
	}
	if s.Sync(); s.Film().Segs()[0].To != 4 {
		t.Errorf("P29.4: %v", s.Film().Segs())
	}
}

func TestFailedIsThePushsErrorFirst(t *testing.T) {
	c := conf
	c.Room = 100
	s, _ := made(t, c)
	for now, text := range []string{"abcdefgh", "ijklmnop"} {
		output(t, s, text)
		tick(t, s, uint64(now))
	}
	if s.Failed() != api.ErrFull {
		t.Errorf("P29.4: without room: Failed %d", s.Failed())
	}
	c = conf
	c.Film.Conf = log.Conf{Segment: 64, Keep: 0, Age: 1}
	s, d := made(t, c)
	output(t, s, "a")
	tick(t, s, 0)
	output(t, s, "b")
	// A rotation has nine operations; Retain begins with the tenth.
	d.Arm(10)
	tick(t, s, 1)
	if s.Failed() != api.ErrDown || len(s.Film().Segs()) != 2 {
		t.Errorf("P29.4: Retain fails: Failed %d, %v", s.Failed(), s.Film().Segs())
	}
}

func TestWhatAViewerIsShown(t *testing.T) {
	r := rand.New(rand.NewSource(1))
	for range 60 {
		c := conf
		c.Film.Conf = log.Conf{Segment: 64 + r.Intn(300), Keep: 300 + r.Intn(900), Age: 1 + uint64(r.Intn(30))}
		c.Resend = 1 + uint64(r.Intn(6))
		s, _ := made(t, c)
		x := join(t, s)
		var flying []server.Datagram
		states := map[uint64]sync.State{}
		asked, before := uint64(0), uint64(0)
		for now := range uint64(150) {
			output(t, s, []string{"a", "bc", "\r", "\n", "\x1b[2J", ""}[r.Intn(6)])
			flying = append(flying, tick(t, s, now)...)
			states[target(t, s, 0).Num] = target(t, s, 0)
			for len(flying) > 0 && r.Intn(3) > 0 {
				at := r.Intn(len(flying))
				part, e := x.peer.Take(0, flying[at].Bytes)
				flying = slices.Delete(flying, at, at+1)
				if e != api.OK {
					continue
				}
				if message, whole, _ := x.gather.Put(part); whole {
					u, _ := sync.DecodeUpdate(message)
					x.receiver.Take(u)
					x.ack = max(x.ack, u.Ack)
				}
			}
			shown := x.receiver.Shown()
			want := states[shown.Num]
			if shown.Num < before || shown.Num > 0 && (shown.Mode != want.Mode || shown.Pos != want.Pos || !screen.Same(shown.Screen, want.Screen)) {
				t.Fatalf("P29.7: shown is %v, the deck stood at %v", shown, want)
			}
			before = shown.Num
			if r.Intn(3) > 0 {
				continue
			}
			if x.ack == asked {
				asked++
			}
			x.report(t, s, asked, []cmd.Command{{Kind: cmd.GoLive}, {Kind: cmd.GoPause}, {Kind: cmd.GoPlay}, {Kind: cmd.GoSeek, Time: uint64(r.Intn(150))}, {Kind: cmd.GoSpeed, Speed: float64(r.Intn(64)) / 16}}[r.Intn(5)])
		}
	}
}

func TestNothingIsShared(t *testing.T) {
	s, _ := made(t, conf)
	key := []byte("key")
	num, _ := s.Join(key)
	key[0] = 'x'
	p, _ := peer.New([]byte("key"), 2, num, 0)
	body, _ := sync.EncodeReport(sync.Report{})
	b, _ := p.Send(body)
	if e := s.Take(num, 5, b); e != api.OK {
		t.Errorf("P29.6: the key is kept: %d", e)
	}
	text := []byte("abc")
	s.Output(text)
	text[0] = 'x'
	x := s.Screen()
	x.Cells[1].Rune = 'x'
	s.Tick(1)
	y, _ := s.Target(num)
	y.Screen.Cells[2].Rune = 'x'
	l := s.Out()
	again := s.Out()
	l[0].Bytes[0] = 9
	if z, _ := s.Target(num); row(z.Screen) != "abc" || row(s.Screen()) != "abc" || len(again) != 0 {
		t.Errorf("P29.6: %q", row(z.Screen))
	}
	s.Tick(11)
	if l := s.Out(); len(l) != 1 {
		t.Errorf("P29.4: %d datagrams", len(l))
	} else if _, e := p.Take(0, l[0].Bytes); e != api.OK {
		t.Errorf("P29.6: what was sent is changed: %d", e)
	}
}

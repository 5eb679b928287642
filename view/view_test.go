package view_test

import (
	"bytes"
	"math"
	"math/rand"
	"testing"

	"tickertape/api"
	"tickertape/cell"
	"tickertape/cmd"
	"tickertape/diff"
	"tickertape/frag"
	"tickertape/key"
	"tickertape/peer"
	"tickertape/pkt"
	"tickertape/screen"
	"tickertape/sync"
	"tickertape/view"
)

var secret = []byte("key0")

func made(t *testing.T, resend uint64) (*view.Viewer, *peer.Peer) {
	t.Helper()
	v, e := view.New(secret, 3, resend)
	p, e2 := peer.New(secret, 1, 3, 0)
	if v == nil || e != api.OK || e2 != api.OK {
		t.Fatal("P30.1: New:", e, e2)
	}
	return v, p
}

// of is a screen of one row.
func of(line string) screen.Screen {
	s := screen.Screen{Rows: 1, Cols: len(line)}
	for i := range len(line) {
		s.Cells = append(s.Cells, cell.Cell{Rune: rune(line[i])})
	}
	return s
}

func text(s screen.Screen) []byte {
	b, _ := key.Encode(s)
	return b
}

// packets is an Update, cut and sealed.
func packets(t *testing.T, p *peer.Peer, id uint64, u sync.Update) [][]byte {
	t.Helper()
	b, e := sync.EncodeUpdate(u)
	if e != api.OK {
		t.Fatal("P28.1:", e)
	}
	parts, e := frag.Cut(id, b)
	if e != api.OK {
		t.Fatal("P26.1:", e)
	}
	for i := range parts {
		parts[i] = send(t, p, parts[i])
	}
	return parts
}

func send(t *testing.T, p *peer.Peer, body []byte) []byte {
	t.Helper()
	b, e := p.Send(body)
	if e != api.OK {
		t.Fatal("P27.1:", e)
	}
	return b
}

// ticked is the Report of a Tick; false, if it sends nothing.
func ticked(t *testing.T, v *view.Viewer, p *peer.Peer, now uint64) (sync.Report, bool) {
	t.Helper()
	b, e := v.Tick(now)
	if e != api.OK {
		t.Fatalf("P30.3: Tick(%d): %d", now, e)
	}
	if b == nil {
		return sync.Report{}, false
	}
	body, e := p.Take(0, b)
	if e != api.OK {
		t.Fatal("P27.3:", e)
	}
	r, e := sync.DecodeReport(body)
	if e != api.OK {
		t.Fatal("P28.1:", e)
	}
	return r, true
}

func same(a, b sync.State) bool {
	return a.Num == b.Num && a.Mode == b.Mode && a.Pos == b.Pos && screen.Same(a.Screen, b.Screen)
}

func TestNew(t *testing.T) {
	for i, c := range []struct {
		viewer int
		resend uint64
	}{{-1, 5}, {8, 5}, {math.MaxInt, 5}, {0, 0}, {0, 1<<20 + 1}, {0, math.MaxUint64}} {
		if v, e := view.New(secret, c.viewer, c.resend); v != nil || e != api.ErrRange {
			t.Errorf("P30.1: case %d: %d", i, e)
		}
	}
	for _, resend := range []uint64{1, 1 << 20} {
		v, _ := made(t, resend)
		if !same(v.Shown(), sync.State{}) || v.Asked() != 0 || v.Waits() {
			t.Errorf("P30.1: at first: %v, %d, %v", v.Shown(), v.Asked(), v.Waits())
		}
	}
}

func TestAsk(t *testing.T) {
	v, p := made(t, 10)
	bad := cmd.Command{Kind: cmd.GoLive, Time: 1}
	if e := v.Ask(bad); e != api.ErrRange || v.Asked() != 0 || v.Waits() {
		t.Errorf("P30.1: Ask of what may not be: %d", e)
	}
	for num := uint64(1); num < 4; num++ {
		if e := v.Ask(cmd.Command{Kind: cmd.GoSeek, Time: num}); e != api.OK || v.Asked() != num || !v.Waits() {
			t.Errorf("P30.1: Ask: %d, %d, %v", e, v.Asked(), v.Waits())
		}
		if v.Ask(cmd.Command{Kind: cmd.GoLive}) != api.ErrState || v.Ask(bad) != api.ErrRange || v.Asked() != num {
			t.Errorf("P30.1: Ask of one that waits: %d", v.Asked())
		}
		for _, x := range packets(t, p, num, sync.Update{Num: num, Ack: num, Body: text(of("a"))}) {
			v.Take(x)
		}
		if v.Waits() {
			t.Error("P30.2: it waits behind its Ack")
		}
	}
}

func TestTake(t *testing.T) {
	v, p := made(t, 10)
	v.Ask(cmd.Command{Kind: cmd.GoPause})
	good := packets(t, p, 1, sync.Update{Num: 2, Pos: 7, Body: text(of("abc"))})[0]
	torn := bytes.Clone(good)
	torn[12] ^= 1
	mine, _ := pkt.Seal(secret, pkt.Packet{Dir: 2, Viewer: 3, Num: 1})
	other, _ := pkt.Seal(secret, pkt.Packet{Dir: 1, Viewer: 4, Num: 1})
	for i, c := range []struct {
		b []byte
		e api.Errno
	}{{nil, api.ErrShort}, {torn, api.ErrTag}, {mine, api.ErrForm}, {other, api.ErrForm}} {
		if e := v.Take(c.b); e != c.e || !same(v.Shown(), sync.State{}) {
			t.Errorf("P30.2: case %d: %d", i, e)
		}
	}
	if e := v.Take(good); e != api.OK || !same(v.Shown(), sync.State{Num: 2, Pos: 7, Screen: of("abc")}) || !v.Waits() {
		t.Errorf("P30.2: %d, %v, %v", e, v.Shown(), v.Waits())
	}
	if e := v.Take(good); e != api.ErrReplay {
		t.Errorf("P30.2: once more: %d", e)
	}
	if e := v.Take(send(t, p, []byte("no part"))); e != api.ErrForm {
		t.Errorf("P30.2: what is no part: %d", e)
	}
	junk, _ := frag.Cut(2, []byte("no update"))
	if e := v.Take(send(t, p, junk[0])); e != api.ErrForm || !v.Waits() {
		t.Errorf("P30.2: what is no Update: %d", e)
	}
	d, _ := diff.Make(of("abc"), of("abd"))
	for i, c := range []struct {
		u     sync.Update
		e     api.Errno
		num   uint64
		waits bool
	}{{sync.Update{Num: 4, Base: 3, Body: d}, api.ErrNone, 2, true}, {sync.Update{Num: 4, Base: 2, Body: []byte("junk")}, api.ErrForm, 2, true}, {sync.Update{Num: 1, Body: text(of("x"))}, api.OK, 2, true}, {sync.Update{Num: 4, Base: 2, Mode: 1, Pos: 9, Body: d}, api.OK, 4, true}, {sync.Update{Num: 5, Base: 3, Ack: 1, Body: d}, api.ErrNone, 4, false}} {
		e := v.Take(packets(t, p, uint64(i)+3, c.u)[0])
		if e != c.e || v.Shown().Num != c.num || v.Waits() != c.waits {
			t.Errorf("P30.2: Update %d: %d, state %d, waits %v", i, e, v.Shown().Num, v.Waits())
		}
	}
	if !same(v.Shown(), sync.State{Num: 4, Mode: 1, Pos: 9, Screen: of("abd")}) {
		t.Errorf("P30.2: %v", v.Shown())
	}
}

func TestAnAckOfAnOldUpdateCounts(t *testing.T) {
	v, p := made(t, 10)
	v.Take(packets(t, p, 1, sync.Update{Num: 5, Body: text(of("a"))})[0])
	v.Ask(cmd.Command{Kind: cmd.GoPause})
	if e := v.Take(packets(t, p, 2, sync.Update{Num: 3, Ack: 7, Body: text(of("b"))})[0]); e != api.OK || v.Waits() || v.Shown().Num != 5 {
		t.Errorf("P30.2: %d, waits %v, state %d", e, v.Waits(), v.Shown().Num)
	}
}

func TestAMessageInParts(t *testing.T) {
	v, p := made(t, 10)
	x, _ := screen.Blank(10, 40)
	for i := range x.Cells {
		x.Cells[i].Rune = 'a' + rune(i%26)
	}
	l := packets(t, p, 1, sync.Update{Num: 1, Body: text(x)})
	if len(l) < 5 {
		t.Fatal("P26.1:", len(l))
	}
	for i, b := range l {
		if e := v.Take(b); e != api.OK || (v.Shown().Num == 1) != (i == len(l)-1) {
			t.Errorf("P30.2: part %d: %d, state %d", i, e, v.Shown().Num)
		}
	}
	if !screen.Same(v.Shown().Screen, x) {
		t.Error("P30.2: the screen is another one")
	}
}

func TestTick(t *testing.T) {
	v, p := made(t, 10)
	c := cmd.Command{Kind: cmd.GoSpeed, Speed: 1.5}
	bytes9, _ := cmd.Encode(c)
	take := func(id uint64, u sync.Update) {
		for _, b := range packets(t, p, id, u) {
			v.Take(b)
		}
	}
	for _, x := range []struct {
		now       uint64
		do        func()
		sent      bool
		have, num uint64
	}{
		{3, func() {}, true, 0, 0}, {3, func() {}, false, 0, 0}, {12, func() {}, false, 0, 0}, {13, func() {}, true, 0, 0}, {14, func() { v.Ask(c) }, true, 0, 1}, {14, func() {}, false, 0, 0}, {23, func() {}, false, 0, 0}, {24, func() {}, true, 0, 1},
		{25, func() { take(1, sync.Update{Num: 4, Body: text(of("a"))}) }, true, 4, 1}, {25, func() {}, false, 0, 0}, {26, func() { take(2, sync.Update{Num: 5, Ack: 1, Body: text(of("b"))}) }, true, 5, 0}, {30, func() { take(3, sync.Update{Num: 2, Body: text(of("c"))}) }, false, 0, 0}, {35, func() {}, false, 0, 0}, {36, func() {}, true, 5, 0}, {36, func() { v.Ask(c) }, true, 5, 2}, {50, func() {}, true, 5, 2}, {api.MaxTick, func() {}, true, 5, 2},
	} {
		x.do()
		r, sent := ticked(t, v, p, x.now)
		if sent != x.sent || sent && (r.Have != x.have || r.Num != x.num || !bytes.Equal(r.Command, bytes9) != (x.num == 0)) {
			t.Errorf("P30.3: at %d: %v, %v", x.now, r, sent)
		}
	}
}

func TestTickTime(t *testing.T) {
	v, p := made(t, 10)
	if b, e := v.Tick(api.MaxTick + 1); b != nil || e != api.ErrRange {
		t.Errorf("P30.3: %d", e)
	}
	if _, sent := ticked(t, v, p, 5); !sent {
		t.Error("P30.3: nothing is sent at first")
	}
	ticked(t, v, p, 9)
	for _, now := range []uint64{8, 0, api.MaxTick + 1, math.MaxUint64} {
		if b, e := v.Tick(now); b != nil || e != api.ErrRange {
			t.Errorf("P30.3: Tick(%d): %d", now, e)
		}
	}
	if _, sent := ticked(t, v, p, 14); sent {
		t.Error("P30.3: sent ahead of its time")
	}
	if _, sent := ticked(t, v, p, 15); !sent {
		t.Error("P30.3: not sent in time")
	}
}

func TestItShowsWhatTheServerShowed(t *testing.T) {
	r := rand.New(rand.NewSource(1))
	for range 60 {
		v, p := made(t, 1+uint64(r.Intn(9)))
		s := sync.NewSender(0)
		states := map[uint64]sync.State{}
		var flying [][]byte
		before, id := uint64(0), uint64(0)
		done := map[uint64]int{}
		last := uint64(0)
		for now := range uint64(200) {
			s.Show(r.Intn(3), uint64(r.Intn(3)), of([]string{"aa", "ab", "b", "cc"}[r.Intn(4)]))
			states[s.Last().Num] = s.Last()
			if u, ok := s.Update(last); ok && r.Intn(2) == 0 {
				id++
				flying = append(flying, packets(t, p, id, u)...)
			}
			if len(flying) > 0 && r.Intn(3) > 0 {
				x := bytes.Clone(flying[r.Intn(len(flying))])
				if r.Intn(4) == 0 {
					x[r.Intn(len(x))] ^= byte(1 + r.Intn(255))
				}
				v.Take(x)
			}
			shown := v.Shown()
			if shown.Num < before || shown.Num > 0 && !same(shown, states[shown.Num]) {
				t.Fatalf("P30.5: shown is %v, the server showed %v", shown, states[shown.Num])
			}
			before = shown.Num
			if r.Intn(5) == 0 {
				v.Ask(cmd.Command{Kind: cmd.GoSeek, Time: now})
			}
			if x, sent := ticked(t, v, p, now); sent && r.Intn(2) == 0 {
				s.Has(x.Have)
				if x.Num == last+1 {
					last++
					done[last]++
				}
			}
		}
		for num, n := range done {
			if n != 1 || num > v.Asked() {
				t.Fatalf("P30.5: command %d is done %d times", num, n)
			}
		}
		if last+1 < v.Asked() {
			t.Fatalf("P30.5: %d are done, %d asked", last, v.Asked())
		}
	}
}

func TestNothingIsShared(t *testing.T) {
	k := []byte("key0")
	v, _ := view.New(k, 3, 10)
	k[0] = 'x'
	p, _ := peer.New(secret, 1, 3, 0)
	b := packets(t, p, 1, sync.Update{Num: 1, Body: text(of("abc"))})[0]
	if e := v.Take(b); e != api.OK {
		t.Errorf("P30.4: the key is kept: %d", e)
	}
	for i := range b {
		b[i] = 0
	}
	s := v.Shown()
	s.Screen.Cells[0].Rune = 'x'
	if !same(v.Shown(), sync.State{Num: 1, Screen: of("abc")}) {
		t.Errorf("P30.4: %v", v.Shown())
	}
	first, _ := v.Tick(0)
	_ = append(first[:0], 9, 9, 9)
	if _, sent := ticked(t, v, p, 10); !sent {
		t.Error("P30.4: what was sent shares memory")
	}
}

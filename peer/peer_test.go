package peer_test

import (
	"bytes"
	"math"
	"math/rand"
	"testing"

	"tickertape/api"
	"tickertape/peer"
	"tickertape/pkt"
)

var key = []byte("key0")

func made(t *testing.T, dir, viewer int, out uint64) *peer.Peer {
	t.Helper()
	p, e := peer.New(key, dir, viewer, out)
	if p == nil || e != api.OK {
		t.Fatal("P27.1: New:", e)
	}
	return p
}

func send(t *testing.T, p *peer.Peer, body string) []byte {
	t.Helper()
	b, e := p.Send([]byte(body))
	if e != api.OK {
		t.Fatal("P27.1: Send:", e)
	}
	return b
}

func seal(t *testing.T, dir, viewer int, num uint64) []byte {
	t.Helper()
	b, e := pkt.Seal(key, pkt.Packet{Dir: dir, Viewer: viewer, Num: num})
	if e != api.OK {
		t.Fatal("P25.1:", e)
	}
	return b
}

func TestNew(t *testing.T) {
	for i, c := range []struct {
		dir, viewer int
		out         uint64
	}{{0, 0, 0}, {3, 0, 0}, {-1, 0, 0}, {1, -1, 0}, {1, 8, 0}, {2, math.MaxInt, 0}, {1, 0, api.MaxCount + 1}, {1, 0, math.MaxUint64}} {
		if p, e := peer.New(key, c.dir, c.viewer, c.out); p != nil || e != api.ErrRange {
			t.Errorf("P27.1: case %d: %d", i, e)
		}
	}
	for _, out := range []uint64{0, 5, api.MaxCount} {
		p := made(t, 2, 7, out)
		if p.Address() != -1 || p.Out() != out || p.In() != 0 {
			t.Errorf("P27.1: address %d, out %d, in %d", p.Address(), p.Out(), p.In())
		}
	}
}

func TestSend(t *testing.T) {
	p := made(t, 1, 3, 0)
	for num := uint64(1); num < 4; num++ {
		got, e := pkt.Open(key, send(t, p, "body"))
		if want := (pkt.Packet{Dir: 1, Viewer: 3, Num: num, Body: []byte("body")}); !pkt.Same(got, want) || e != api.OK || p.Out() != num {
			t.Errorf("P27.1: %v, %d, out %d", got, e, p.Out())
		}
	}
	if b, e := p.Send(make([]byte, pkt.Most+1)); b != nil || e != api.ErrLong || p.Out() != 3 {
		t.Errorf("P27.1: a long one: %d, out %d", e, p.Out())
	}
	if b, e := p.Send(make([]byte, pkt.Most)); len(b) != 1226 || e != api.OK || p.Out() != 4 {
		t.Errorf("P27.1: the longest: %d, out %d", e, p.Out())
	}
	p = made(t, 1, 3, api.MaxCount-1)
	send(t, p, "")
	for _, n := range []int{0, pkt.Most + 1} {
		if b, e := p.Send(make([]byte, n)); b != nil || e != api.ErrCounter || p.Out() != api.MaxCount {
			t.Errorf("P27.1: behind the last number: %d, out %d", e, p.Out())
		}
	}
}

func TestTake(t *testing.T) {
	p := made(t, 1, 3, 0)
	torn := seal(t, 2, 3, 9)
	torn[len(torn)-1] ^= 1
	for i, c := range []struct {
		from    int
		b       []byte
		e       api.Errno
		address int
		in      uint64
	}{
		{5, nil, api.ErrShort, -1, 0}, {5, torn, api.ErrTag, -1, 0}, {5, seal(t, 1, 3, 1), api.ErrForm, -1, 0}, {5, seal(t, 2, 4, 1), api.ErrForm, -1, 0}, {-1, seal(t, 2, 3, 2), api.OK, -1, 2}, {math.MinInt, seal(t, 2, 3, 3), api.OK, -1, 3}, {0, seal(t, 2, 3, 4), api.OK, 0, 4}, {7, seal(t, 2, 3, 9), api.OK, 7, 9}, {8, seal(t, 2, 3, 9), api.ErrReplay, 7, 9}, {8, seal(t, 2, 3, 5), api.ErrReplay, 7, 9}, {8, seal(t, 1, 3, 5), api.ErrForm, 7, 9}, {-5, seal(t, 2, 3, 10), api.OK, 7, 10}, {math.MaxInt, seal(t, 2, 3, api.MaxCount), api.OK, math.MaxInt, api.MaxCount},
	} {
		body, e := p.Take(c.from, c.b)
		if e != c.e || len(body) != 0 || p.Address() != c.address || p.In() != c.in || p.Out() != 0 {
			t.Errorf("P27.1, P27.2: case %d: %d; address %d, in %d", i, e, p.Address(), p.In())
		}
	}
	other, _ := peer.New([]byte("key1"), 2, 3, 0)
	if _, e := p.Take(1, send(t, other, "x")); e != api.ErrTag {
		t.Errorf("P27.1: of another key: %d", e)
	}
}

func TestWhatOneSendsTheOtherTakesOnce(t *testing.T) {
	r := rand.New(rand.NewSource(1))
	a, b := made(t, 1, 2, 0), made(t, 2, 2, 0)
	var sent [][]byte
	taken := map[string]int{}
	for i := range 500 {
		body := string(rune('a'+i%26)) + string(rune('a'+i/26))
		sent = append(sent, send(t, a, body))
		for range 3 {
			at := len(sent) - 1 - r.Intn(min(len(sent), 5))
			x := bytes.Clone(sent[at])
			if r.Intn(3) == 0 {
				x[r.Intn(len(x))] ^= byte(1 + r.Intn(255))
			}
			if body, e := b.Take(1, x); e == api.OK {
				taken[string(body)]++
				if !bytes.Equal(x, sent[at]) || taken[string(body)] > 1 {
					t.Fatalf("P27.3: %q is taken %d times", body, taken[string(body)])
				}
			}
			if _, e := a.Take(1, x); e == api.OK {
				t.Fatal("P27.3: who sends takes its own")
			}
		}
	}
	if len(taken) < 100 {
		t.Errorf("P27.3: only %d are taken", len(taken))
	}
}

func TestNothingIsShared(t *testing.T) {
	k := []byte("key0behind")
	p, _ := peer.New(k[:4], 1, 0, 0)
	k[0] = 'x'
	body := []byte("bodybehind")
	b, _ := p.Send(body[:4])
	other := made(t, 2, 0, 0)
	in := append(bytes.Clone(b), "behind"...)
	got, e := other.Take(0, in[:len(b)])
	in[pkt.Head] = 'x'
	_ = append(got, "xyz"...)
	if string(got) != "body" || e != api.OK || string(body) != "bodybehind" || string(k) != "xey0behind" {
		t.Errorf("P27.2: %q, %d, %q", got, e, body)
	}
}

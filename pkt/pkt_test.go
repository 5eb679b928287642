package pkt_test

import (
	"bytes"
	"math"
	"math/rand"
	"slices"
	"strings"
	"testing"

	"tickertape/api"
	"tickertape/mac"
	"tickertape/pkt"
)

var key = []byte("key0")

// sealed is these bytes with a tag that fits.
func sealed(s string) []byte { return append([]byte(s), mac.Tag(key, []byte(s))...) }

func TestSeal(t *testing.T) {
	for i, c := range []struct {
		p    pkt.Packet
		want string
	}{
		{pkt.Packet{Dir: 1, Viewer: 0, Num: 1}, "\x01\x00\x00\x00\x00\x00\x00\x00\x00\x01"}, {pkt.Packet{Dir: 2, Viewer: 7, Num: 0x0102030405060708, Body: []byte("body")}, "\x02\x07\x01\x02\x03\x04\x05\x06\x07\x08body"},
		{pkt.Packet{Dir: 1, Viewer: 3, Num: api.MaxCount, Body: make([]byte, pkt.Most)}, "\x01\x03\x40\x00\x00\x00\x00\x00\x00\x00" + strings.Repeat("\x00", pkt.Most)},
	} {
		b, e := pkt.Seal(key, c.p)
		if !pkt.May(c.p) || !bytes.Equal(b, sealed(c.want)) || e != api.OK || len(b) != pkt.Head+len(c.p.Body)+mac.Len {
			t.Errorf("P25.1: case %d: % X, %d", i, b, e)
		}
		if p, e := pkt.Open(key, sealed(c.want)); !pkt.Same(p, c.p) || e != api.OK {
			t.Errorf("P25.1: case %d: %v, %d", i, p, e)
		}
	}
	if pkt.Head != 10 || pkt.Most != 1200 {
		t.Errorf("P25.1: %d, %d", pkt.Head, pkt.Most)
	}
	for i, p := range []pkt.Packet{{}, {Dir: 0, Num: 1}, {Dir: 3, Num: 1}, {Dir: -1, Num: 1}, {Dir: 257, Num: 1}, {Dir: 1, Viewer: 8, Num: 1}, {Dir: 1, Viewer: -1, Num: 1}, {Dir: 1, Viewer: 256, Num: 1}, {Dir: 1}, {Dir: 1, Num: api.MaxCount + 1}, {Dir: 1, Num: math.MaxUint64}, {Dir: 1, Num: 1, Body: make([]byte, pkt.Most+1)}} {
		if b, e := pkt.Seal(key, p); pkt.May(p) || b != nil || e != api.ErrRange {
			t.Errorf("P25.1: bad case %d: % X, %d", i, b, e)
		}
	}
}

func TestOpenRefuses(t *testing.T) {
	good, _ := pkt.Seal(key, pkt.Packet{Dir: 1, Viewer: 2, Num: 3, Body: []byte("body")})
	head := "\x01\x00\x00\x00\x00\x00\x00\x00\x00\x01"
	for i, c := range []struct {
		key, b []byte
		e      api.Errno
	}{
		{key, nil, api.ErrShort}, {key, good[:25], api.ErrShort}, {key, sealed(head)[:25], api.ErrShort}, {key, sealed("\x01\x00\x00"), api.ErrShort}, {key, good[:26], api.ErrTag}, {key, good[1:], api.ErrTag}, {[]byte("key1"), good, api.ErrTag}, {nil, good, api.ErrTag}, {key, append(slices.Clone(good), 0), api.ErrTag}, {key, make([]byte, 26), api.ErrTag},
		{key, sealed("\x00" + head[1:]), api.ErrForm}, {key, sealed("\x03" + head[1:]), api.ErrForm}, {key, sealed("\x01\x08" + head[2:]), api.ErrForm}, {key, sealed(head[:9] + "\x00"), api.ErrForm}, {key, sealed("\x01\x00\x40\x00\x00\x00\x00\x00\x00\x01"), api.ErrForm}, {key, sealed("\x01\x00\xFF" + head[3:]), api.ErrForm}, {key, sealed(head + strings.Repeat("x", pkt.Most+1)), api.ErrForm},
	} {
		if p, e := pkt.Open(c.key, c.b); !pkt.Same(p, pkt.Packet{}) || e != c.e {
			t.Errorf("P25.1: case %d: %v, %d; want %d", i, p, e, c.e)
		}
	}
	for at := range good {
		b := slices.Clone(good)
		b[at] ^= 1
		if p, e := pkt.Open(key, b); !pkt.Same(p, pkt.Packet{}) || e != api.ErrTag {
			t.Errorf("P25.1: byte %d turned: %v, %d", at, p, e)
		}
	}
}

func TestOpenOfSeal(t *testing.T) {
	r := rand.New(rand.NewSource(1))
	for range 500 {
		p := pkt.Packet{Dir: 1 + r.Intn(2), Viewer: r.Intn(8), Num: 1 + r.Uint64()>>2>>r.Intn(60), Body: make([]byte, r.Intn(100))}
		r.Read(p.Body)
		k := make([]byte, r.Intn(100))
		r.Read(k)
		b, e := pkt.Seal(k, p)
		if got, e2 := pkt.Open(k, b); e != api.OK || e2 != api.OK || !pkt.Same(got, p) {
			t.Fatalf("P25.4: %v comes back as %v, %d, %d", p, got, e, e2)
		}
	}
}

func TestSame(t *testing.T) {
	a := pkt.Packet{Dir: 1, Viewer: 2, Num: 3, Body: []byte("ab")}
	if !pkt.Same(a, a) || !pkt.Same(pkt.Packet{Body: []byte{}}, pkt.Packet{}) {
		t.Error("P25.1: Same")
	}
	for _, b := range []pkt.Packet{{Dir: 2, Viewer: 2, Num: 3, Body: a.Body}, {Dir: 1, Viewer: 1, Num: 3, Body: a.Body}, {Dir: 1, Viewer: 2, Num: 4, Body: a.Body}, {Dir: 1, Viewer: 2, Num: 3, Body: []byte("ac")}, {Dir: 1, Viewer: 2, Num: 3}} {
		if pkt.Same(a, b) || pkt.Same(b, a) {
			t.Errorf("P25.1: Same of %v", b)
		}
	}
}

func TestWindow(t *testing.T) {
	w := pkt.NewWindow(0)
	for i, c := range []struct {
		num  uint64
		e    api.Errno
		last uint64
	}{{0, api.ErrReplay, 0}, {3, api.OK, 3}, {3, api.ErrReplay, 3}, {2, api.ErrReplay, 3}, {4, api.OK, 4}, {100, api.OK, 100}, {99, api.ErrReplay, 100}, {math.MaxUint64, api.OK, math.MaxUint64}, {math.MaxUint64, api.ErrReplay, math.MaxUint64}} {
		fresh := w.Fresh(c.num)
		if e := w.Take(c.num); e != c.e || fresh != (e == api.OK) || w.Last() != c.last {
			t.Errorf("P25.2: case %d: %d, %v, last %d", i, e, fresh, w.Last())
		}
	}
	w = pkt.NewWindow(50)
	if w.Last() != 50 || w.Fresh(50) || !w.Fresh(51) || w.Take(50) != api.ErrReplay || w.Take(51) != api.OK {
		t.Error("P25.2: NewWindow(50)")
	}
}

func TestNoNumberIsTakenTwice(t *testing.T) {
	r := rand.New(rand.NewSource(2))
	w := pkt.NewWindow(0)
	taken := map[uint64]bool{}
	for range 2000 {
		num := uint64(r.Intn(300))
		if w.Take(num) == api.OK {
			if taken[num] {
				t.Fatalf("P25.4: %d is taken twice", num)
			}
			taken[num] = true
		}
	}
}

func TestNothingIsShared(t *testing.T) {
	k, body := []byte("key0behind"), []byte("bodybehind")
	p := pkt.Packet{Dir: 1, Num: 1, Body: body[:4]}
	b, _ := pkt.Seal(k[:4], p)
	in := append(slices.Clone(b), "behind"...)
	got, _ := pkt.Open(k[:4], in[:len(b)])
	in[pkt.Head] = 'x'
	_ = append(got.Body, "xyz"...)
	if string(got.Body) != "body" || string(k) != "key0behind" || string(body) != "bodybehind" || !bytes.Equal(in[pkt.Head+1:len(b)], b[pkt.Head+1:]) {
		t.Errorf("P25.3: %q, %q, %q", got.Body, k, body)
	}
}

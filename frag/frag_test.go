package frag_test

import (
	"bytes"
	"math"
	"math/rand"
	"slices"
	"strings"
	"testing"

	"tickertape/api"
	"tickertape/frag"
	"tickertape/wire"
)

func part(id, place, count uint64, body string) []byte {
	return append(slices.Concat(wire.Var(id), wire.Var(place), wire.Var(count)), body...)
}

var full = strings.Repeat("x", api.MaxPart)

func cut(t *testing.T, id uint64, b []byte) [][]byte {
	t.Helper()
	l, e := frag.Cut(id, b)
	if e != api.OK {
		t.Fatal("P26.1: Cut:", e)
	}
	return l
}

func text(n int) []byte {
	b := make([]byte, n)
	rand.New(rand.NewSource(int64(n))).Read(b)
	return b
}

func TestCut(t *testing.T) {
	for n, count := range map[int]int{0: 1, 1: 1, 255: 1, 256: 1, 257: 2, 512: 2, 513: 3, 1000: 4, api.MaxBody: 4096} {
		b := text(n)
		l := cut(t, 300, b)
		if len(l) != count {
			t.Fatalf("P26.1: %d bytes in %d parts", n, len(l))
		}
		for i, p := range l {
			want := part(300, uint64(i), uint64(count), string(b[min(n, i*256):min(n, i*256+256)]))
			if !bytes.Equal(p, want) {
				t.Fatalf("P26.1: part %d of %d bytes: % X", i, n, p)
			}
		}
	}
	if l := cut(t, 1, nil); len(l) != 1 || !bytes.Equal(l[0], []byte{1, 0, 1}) {
		t.Errorf("P26.1: of none: % X", l)
	}
	cut(t, api.MaxCount, nil)
	long := make([]byte, api.MaxBody+1)
	for i, c := range []struct {
		id uint64
		b  []byte
		e  api.Errno
	}{{0, nil, api.ErrCounter}, {api.MaxCount + 1, nil, api.ErrCounter}, {math.MaxUint64, long, api.ErrCounter}, {0, long, api.ErrCounter}, {1, long, api.ErrLong}} {
		if l, e := frag.Cut(c.id, c.b); l != nil || e != c.e {
			t.Errorf("P26.1: case %d: %d parts, %d", i, len(l), e)
		}
	}
}

func TestPut(t *testing.T) {
	g := frag.NewGather()
	if g.ID() != 0 || g.Have() != 0 {
		t.Errorf("P26.2: at first: %d, %d", g.ID(), g.Have())
	}
	for i, c := range []struct {
		part    []byte
		message string
		whole   bool
		e       api.Errno
		id      uint64
		have    int
	}{
		{part(5, 1, 2, "ab"), "", false, api.OK, 5, 1}, {part(5, 1, 2, "ab"), "", false, api.OK, 5, 1}, {part(4, 0, 1, "old"), "", false, api.OK, 5, 1}, {part(5, 1, 2, "ac"), "", false, api.ErrForm, 5, 1}, {part(5, 0, 3, full), "", false, api.ErrForm, 5, 1}, {part(5, 0, 1, ""), "", false, api.ErrForm, 5, 1},
		{part(5, 0, 2, full), full + "ab", true, api.OK, 5, 2}, {part(5, 0, 2, full), "", false, api.OK, 5, 2}, {part(5, 1, 2, "ab"), "", false, api.OK, 5, 2}, {part(5, 1, 2, "xy"), "", false, api.ErrForm, 5, 2}, {part(5, 0, 2, "y"+full[1:]), "", false, api.ErrForm, 5, 2},
		{part(7, 0, 1, ""), "", true, api.OK, 7, 1}, {part(7, 0, 1, ""), "", false, api.OK, 7, 1}, {part(6, 0, 1, "a"), "", false, api.OK, 7, 1}, {part(8, 0, 2, full), "", false, api.OK, 8, 1}, {part(9, 2, 3, "z"), "", false, api.OK, 9, 1}, {part(8, 1, 2, "a"), "", false, api.OK, 9, 1}, {part(api.MaxCount, 0, 1, full), full, true, api.OK, api.MaxCount, 1},
	} {
		message, whole, e := g.Put(c.part)
		if string(message) != c.message || whole != c.whole || e != c.e || g.ID() != c.id || g.Have() != c.have {
			t.Errorf("P26.2: case %d: %d bytes, %v, %d; id %d, %d parts", i, len(message), whole, e, g.ID(), g.Have())
		}
	}
}

func TestPutRefuses(t *testing.T) {
	g := frag.NewGather()
	g.Put(part(5, 1, 2, "ab"))
	for i, b := range [][]byte{
		nil, {9}, {9, 0}, part(0, 0, 1, ""), part(api.MaxCount+1, 0, 1, ""), part(math.MaxUint64, 0, 1, ""), part(9, 0, 0, ""), part(9, 1, 1, ""), part(9, 1, 1, full), part(9, 2, 2, full), part(9, 2, 1, ""), part(9, 0, 4097, full), part(9, 4096, 4097, ""), part(9, math.MaxUint64, 1, ""), part(9, 0, math.MaxUint64, full), part(9, 0, 1, full+"x"), part(9, 1, 2, full+"x"),
		part(9, 0, 2, ""), part(9, 0, 2, full[1:]), part(9, 0, 2, full+"x"), {0x89, 0, 0, 1}, {9, 0x80, 0, 1}, {9, 0, 0x81, 0}, {9, 0, 0x81}, part(4, 0, 2, "short"), part(5, 0, 2, "short"), part(4, 1, 1, ""),
	} {
		if message, whole, e := g.Put(b); message != nil || whole || e != api.ErrForm || g.ID() != 5 || g.Have() != 1 {
			t.Errorf("P26.2: case %d: %v, %d; id %d, %d parts", i, whole, e, g.ID(), g.Have())
		}
	}
	if message, whole, e := g.Put(part(5, 0, 2, full)); string(message) != full+"ab" || !whole || e != api.OK {
		t.Errorf("P26.2: behind what was refused: %v, %d", whole, e)
	}
}

func TestInWhateverOrder(t *testing.T) {
	r := rand.New(rand.NewSource(1))
	g := frag.NewGather()
	for id := uint64(1); id < 200; id++ {
		b := text(r.Intn(2000))
		l := cut(t, id, b)
		all := slices.Concat(l, l, l)
		r.Shuffle(len(all), func(i, k int) { all[i], all[k] = all[k], all[i] })
		times := 0
		for _, p := range all {
			message, whole, e := g.Put(p)
			if e != api.OK || whole && !bytes.Equal(message, b) || !whole && message != nil {
				t.Fatalf("P26.4: message %d: %v, %d", id, whole, e)
			}
			if whole {
				times++
			}
		}
		if times != 1 || g.Have() != len(l) || g.ID() != id {
			t.Fatalf("P26.4: message %d came %d times", id, times)
		}
	}
}

func TestTheLongestMessage(t *testing.T) {
	b := text(api.MaxBody)
	g := frag.NewGather()
	for i, p := range cut(t, 1, b) {
		if message, whole, e := g.Put(p); e != api.OK || whole != (i == 4095) || whole && !bytes.Equal(message, b) {
			t.Fatalf("P26.4: part %d: %v, %d", i, whole, e)
		}
	}
}

func TestNothingIsShared(t *testing.T) {
	b := text(600)
	in := slices.Clone(b)
	l := cut(t, 1, in)
	in[0]++
	for i := range l {
		_ = append(l[i], 1, 2, 3)
	}
	g := frag.NewGather()
	for _, p := range l[:2] {
		g.Put(p)
		p[len(p)-1]++
	}
	message, whole, _ := g.Put(l[2])
	if !whole || !bytes.Equal(message, b) {
		t.Error("P26.3: parts share memory")
	}
	message[0]++
	if _, _, e := g.Put(cut(t, 1, b)[0]); e != api.OK {
		t.Errorf("P26.3: the message is the Gather's memory: %d", e)
	}
}

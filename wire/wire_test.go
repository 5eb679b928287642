package wire_test

import (
	"bytes"
	"encoding/binary"
	"hash/crc32"
	"math"
	"math/rand"
	"testing"

	"tickertape/api"
	"tickertape/wire"
)

func TestVar(t *testing.T) {
	for n, want := range map[uint64][]byte{
		0: {0}, 1: {1}, 127: {127}, 128: {0x80, 1}, 300: {0xAC, 2}, 16383: {0xFF, 0x7F}, 16384: {0x80, 0x80, 1},
		1<<63 - 1:      {0xFF, 0xFF, 0xFF, 0xFF, 0xFF, 0xFF, 0xFF, 0xFF, 0x7F},
		1 << 63:        {0x80, 0x80, 0x80, 0x80, 0x80, 0x80, 0x80, 0x80, 0x80, 1},
		math.MaxUint64: {0xFF, 0xFF, 0xFF, 0xFF, 0xFF, 0xFF, 0xFF, 0xFF, 0xFF, 1},
	} {
		if got := wire.Var(n); !bytes.Equal(got, want) {
			t.Errorf("P2.1: Var(%d) is % X", n, got)
		}
		if got, end, e := wire.Get(want, 0); got != n || end != len(want) || e != api.OK {
			t.Errorf("P2.1: Get(% X) is %d, %d, %d", want, got, end, e)
		}
	}
}

func TestGetAtAPlace(t *testing.T) {
	b := []byte{9, 0xAC, 2, 0}
	for at, want := range map[int][2]int{0: {9, 1}, 1: {300, 3}, 2: {2, 3}, 3: {0, 4}} {
		if n, end, e := wire.Get(b, at); n != uint64(want[0]) || end != want[1] || e != api.OK {
			t.Errorf("P2.1: at %d: %d, %d, %d", at, n, end, e)
		}
	}
	for at, want := range map[int]api.Errno{4: api.ErrShort, 5: api.ErrRange, -1: api.ErrRange, math.MinInt: api.ErrRange, math.MaxInt: api.ErrRange} {
		if n, end, e := wire.Get(b, at); n != 0 || end != 0 || e != want {
			t.Errorf("P2.1: at %d: %d, %d, %d", at, n, end, e)
		}
	}
}

func TestGetRefuses(t *testing.T) {
	many := func(n int, c ...byte) []byte { return append(bytes.Repeat([]byte{0x80}, n), c...) }
	for i, c := range []struct {
		b []byte
		e api.Errno
	}{
		{nil, api.ErrShort}, {many(1), api.ErrShort}, {many(9), api.ErrShort},
		{many(10), api.ErrForm}, {many(11), api.ErrForm}, {many(9, 2), api.ErrForm}, {many(9, 0x81), api.ErrForm}, {many(9, 0), api.ErrForm}, {many(9, 0x7F), api.ErrForm},
		{many(1, 0), api.ErrForm}, {[]byte{0xFF, 0}, api.ErrForm}, {many(8, 0), api.ErrForm}, {many(3, 0, 5), api.ErrForm},
	} {
		if n, end, e := wire.Get(c.b, 0); n != 0 || end != 0 || e != c.e {
			t.Errorf("P2.1: case %d: %d, %d, %d", i, n, end, e)
		}
	}
}

func TestGetOfVar(t *testing.T) {
	r := rand.New(rand.NewSource(1))
	for range 5000 {
		n := r.Uint64() >> r.Intn(64)
		v := wire.Var(n)
		if got, end, e := wire.Get(append([]byte{1}, v...), 1); got != n || end != 1+len(v) || e != api.OK {
			t.Fatalf("P2.5: %d comes back as %d, %d, %d", n, got, end, e)
		}
		if !bytes.Equal(v, binary.AppendUvarint(nil, n)) {
			t.Fatalf("P2.1: Var(%d) is % X", n, v)
		}
		b := make([]byte, 12)
		for i := range b {
			b[i] = byte(r.Uint32()) | byte(r.Intn(4)/3*128)
		}
		if got, end, e := wire.Get(b, 0); e == api.OK && !bytes.Equal(wire.Var(got), b[:end]) {
			t.Fatalf("P2.5: % X is read as %d", b, got)
		}
	}
}

func TestCrc(t *testing.T) {
	if wire.Crc([]byte("123456789")) != 0xCBF43926 || wire.Crc(nil) != 0 {
		t.Error("P2.2: Crc")
	}
	r := rand.New(rand.NewSource(2))
	for n := range 300 {
		b := make([]byte, n)
		r.Read(b)
		if wire.Crc(b) != crc32.ChecksumIEEE(b) {
			t.Fatalf("P2.2: Crc(% X) is %X", b, wire.Crc(b))
		}
	}
}

func TestFour(t *testing.T) {
	for n, want := range map[uint32]string{0: "\x00\x00\x00\x00", 0x01020304: "\x01\x02\x03\x04", math.MaxUint32: "\xFF\xFF\xFF\xFF", 0x80: "\x00\x00\x00\x80"} {
		if got := wire.Four(n); string(got) != want {
			t.Errorf("P2.2: Four(%x) is % X", n, got)
		}
	}
}

func TestReaderReadsFromTheFront(t *testing.T) {
	r := wire.NewReader([]byte{0xAC, 2, 7, 8, 9, 3, 'a', 'b', 'c', 0, 5})
	if n := r.Num(300); n != 300 || r.Left() != 9 {
		t.Errorf("P2.3: Num is %d, %d left", n, r.Left())
	}
	if b := r.Raw(3); !bytes.Equal(b, []byte{7, 8, 9}) || r.Left() != 6 {
		t.Errorf("P2.3: Raw is %v, %d left", b, r.Left())
	}
	if s := r.Text(3); s != "abc" || r.Left() != 2 {
		t.Errorf("P2.3: Text is %q, %d left", s, r.Left())
	}
	if s := r.Text(0); s != "" || r.Left() != 1 || r.Err() != api.OK {
		t.Errorf("P2.3: an empty Text is %q, %d left", s, r.Left())
	}
	if b := r.Raw(0); len(b) != 0 || r.Left() != 1 || r.Err() != api.OK {
		t.Errorf("P2.3: Raw(0) is %v, %d left", b, r.Left())
	}
	if r.End() != api.ErrLong || r.Err() != api.OK {
		t.Errorf("P2.3: End is %d, Err %d", r.End(), r.Err())
	}
	if n := r.Num(math.MaxUint64); n != 5 || r.End() != api.OK || r.Left() != 0 {
		t.Errorf("P2.3: the last Num is %d, End %d", n, r.End())
	}
	if n := r.Num(9); n != 0 || r.Err() != api.ErrShort || r.End() != api.ErrShort {
		t.Errorf("P2.3: behind the end: %d, %d", n, r.Err())
	}
}

func TestReaderFailsForGood(t *testing.T) {
	for i, c := range []struct {
		b    []byte
		read func(r *wire.Reader) bool
		e    api.Errno
	}{
		{[]byte{5, 1}, func(r *wire.Reader) bool { return r.Num(4) == 0 }, api.ErrRange},
		{[]byte{0x80, 0, 1}, func(r *wire.Reader) bool { return r.Num(9) == 0 }, api.ErrForm},
		{[]byte{0x80}, func(r *wire.Reader) bool { return r.Num(9) == 0 }, api.ErrShort},
		{[]byte{1, 2}, func(r *wire.Reader) bool { return r.Raw(3) == nil }, api.ErrShort},
		{[]byte{1, 2}, func(r *wire.Reader) bool { return r.Raw(math.MaxInt) == nil }, api.ErrShort},
		{[]byte{1, 2}, func(r *wire.Reader) bool { return r.Raw(-1) == nil }, api.ErrRange},
		{[]byte{1, 2}, func(r *wire.Reader) bool { return r.Raw(math.MinInt) == nil }, api.ErrRange},
		{[]byte{3, 'a', 'b'}, func(r *wire.Reader) bool { return r.Text(9) == "" }, api.ErrShort},
		{[]byte{3, 'a', 'b', 'c'}, func(r *wire.Reader) bool { return r.Text(2) == "" }, api.ErrRange},
		{[]byte{3, 'a', 'b', 'c'}, func(r *wire.Reader) bool { return r.Text(-1) == "" }, api.ErrRange},
		{append(wire.Var(math.MaxUint64), 'a'), func(r *wire.Reader) bool { return r.Text(math.MaxInt) == "" }, api.ErrRange},
		{append(wire.Var(math.MaxInt), 'a'), func(r *wire.Reader) bool { return r.Text(math.MaxInt) == "" }, api.ErrShort},
	} {
		r := wire.NewReader(append([]byte{0}, c.b...))
		r.Num(0)
		if !c.read(r) || r.Err() != c.e || r.End() != c.e || r.Left() != len(c.b) {
			t.Errorf("P2.3: case %d: Err %d, End %d, %d left", i, r.Err(), r.End(), r.Left())
		}
		if r.Num(math.MaxUint64) != 0 || r.Raw(1) != nil || r.Text(9) != "" || r.Raw(-1) != nil || r.Err() != c.e || r.Left() != len(c.b) {
			t.Errorf("P2.3: case %d: it reads on", i)
		}
	}
}

func TestReaderKeepsNothing(t *testing.T) {
	b := []byte{1, 2, 3, 4, 5}
	r := wire.NewReader(b[:3])
	b[0], b[1] = 9, 9
	first := r.Raw(1)
	rest := r.Raw(2)
	if !bytes.Equal(first, []byte{1}) || !bytes.Equal(rest, []byte{2, 3}) || r.End() != api.OK {
		t.Fatalf("P2.4: %v, %v", first, rest)
	}
	first = append(first, 7, 7)
	if !bytes.Equal(rest, []byte{2, 3}) || !bytes.Equal(b, []byte{9, 9, 3, 4, 5}) {
		t.Errorf("P2.4: lists share memory: %v, %v, %v", first, rest, b)
	}
	v := wire.Var(1)
	v[0] = 9
	if wire.Var(1)[0] != 1 {
		t.Error("P2.4: Var hands out the same memory twice")
	}
}

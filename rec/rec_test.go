package rec_test

import (
	"bytes"
	"math"
	"math/rand"
	"slices"
	"testing"

	"tickertape/api"
	"tickertape/rec"
	"tickertape/wire"
)

func record(kind int, seq, time uint64, body string) rec.Record {
	return rec.Record{Kind: kind, Seq: seq, Time: time, Body: []byte(body)}
}

// sealed is a record's bytes with a sum that fits, whatever behind it is.
func sealed(rest ...byte) []byte {
	return slices.Concat([]byte{0xA7, 0x5C}, wire.Four(wire.Crc(rest)), rest)
}

func rest(kind byte, body string, l ...uint64) []byte {
	b := []byte{kind}
	for _, n := range l {
		b = append(b, wire.Var(n)...)
	}
	return append(b, body...)
}

func TestMay(t *testing.T) {
	most := make([]byte, api.MaxBody)
	for i, r := range []rec.Record{record(1, 1, 0, ""), record(2, 1, 0, "x"), record(1, api.MaxCount, api.MaxTick, ""), {Kind: 1, Seq: 1, Body: most}} {
		if b, e := rec.Encode(r); !rec.May(r) || e != api.OK || len(b) == 0 {
			t.Errorf("P15.1: case %d: %v, %d", i, rec.May(r), e)
		}
	}
	for i, r := range []rec.Record{{}, record(0, 1, 0, ""), record(3, 1, 0, ""), record(-1, 1, 0, ""), record(257, 1, 0, ""), record(1, 0, 0, ""), record(1, api.MaxCount+1, 0, ""), record(1, math.MaxUint64, 0, ""), record(1, 1, api.MaxTick+1, ""), {Kind: 1, Seq: 1, Body: append(most, 0)}} {
		if b, e := rec.Encode(r); rec.May(r) || b != nil || e != api.ErrRange {
			t.Errorf("P15.1: bad case %d: %v, %d", i, rec.May(r), e)
		}
	}
}

func TestEncode(t *testing.T) {
	if b, _ := rec.Encode(record(1, 1, 0, "")); len(b) != 10 {
		t.Errorf("P15.1: the example has %d bytes", len(b))
	}
	for _, c := range []struct {
		r    rec.Record
		want []byte
	}{
		{record(1, 1, 0, ""), sealed(1, 1, 0, 0)}, {record(2, 300, 5, "ab"), sealed(2, 0xAC, 2, 5, 2, 'a', 'b')},
		{record(1, api.MaxCount, api.MaxTick, "x"), sealed(rest(1, "x", api.MaxCount, api.MaxTick, 1)...)},
	} {
		if b, e := rec.Encode(c.r); !bytes.Equal(b, c.want) || e != api.OK {
			t.Errorf("P15.1: %v: % X, %d", c.r, b, e)
		}
		b := slices.Concat([]byte{9, 9}, c.want, []byte{0xA7})
		if r, end, e := rec.Decode(b, 2); !rec.Same(r, c.r) || end != 2+len(c.want) || e != api.OK {
			t.Errorf("P15.2: %v: %v, %d, %d", c.r, r, end, e)
		}
	}
}

func TestDecodeRefuses(t *testing.T) {
	good := sealed(rest(1, "body", 7, 300, 4)...)
	other := slices.Clone(good)
	other[2] ^= 1
	for i, c := range []struct {
		b  []byte
		at int
		e  api.Errno
	}{
		{good, -1, api.ErrRange}, {good, len(good) + 1, api.ErrRange}, {good, math.MinInt, api.ErrRange}, {good, math.MaxInt, api.ErrRange}, {nil, 0, api.ErrShort}, {good, len(good), api.ErrShort}, {good, len(good) - 5, api.ErrShort}, {good[:5], 0, api.ErrShort}, {[]byte{1, 2, 3, 4, 5}, 0, api.ErrShort}, {good[:6], 0, api.ErrShort},
		{[]byte{0xA7, 0x5B, 0, 0, 0, 0}, 0, api.ErrForm}, {[]byte{0xA6, 0x5C, 0, 0, 0, 0}, 0, api.ErrForm}, {[]byte{0x5C, 0xA7, 0, 0, 0, 0}, 0, api.ErrForm}, {good, 1, api.ErrForm}, {other, 0, api.ErrSum},
		{sealed(rest(0, "", 1, 0, 0)...), 0, api.ErrForm}, {sealed(rest(3, "", 1, 0, 0)...), 0, api.ErrForm}, {sealed(rest(1, "", 0, 0, 0)...), 0, api.ErrForm}, {sealed(rest(1, "", api.MaxCount+1, 0, 0)...), 0, api.ErrForm}, {sealed(rest(1, "", 1, api.MaxTick+1, 0)...), 0, api.ErrForm}, {sealed(rest(1, "", 1, 0, math.MaxUint64)...), 0, api.ErrForm}, {sealed(rest(1, "", 1, 0, api.MaxBody+1)...), 0, api.ErrForm}, {sealed(rest(1, "", 1, 0, api.MaxBody)...), 0, api.ErrShort},
		{sealed(1, 0x81, 0, 0, 0), 0, api.ErrForm}, {sealed(1, 1, 0x80, 0, 0), 0, api.ErrForm}, {sealed(1, 1, 0, 0x80, 0), 0, api.ErrForm}, {sealed(append([]byte{1}, bytes.Repeat([]byte{0x80}, 10)...)...), 0, api.ErrForm}, {sealed(append([]byte{1}, bytes.Repeat([]byte{0x80}, 9)...)...), 0, api.ErrShort},
		{append(append([]byte{0xA7, 0x5C, 9, 9, 9, 9}, rest(9, "", 1, 0, 0)...), 0), 0, api.ErrSum}, {append([]byte{0xA7, 0x5C, 9, 9, 9, 9}, rest(1, "", 1, 0, api.MaxBody+1)...), 0, api.ErrForm},
	} {
		if r, end, e := rec.Decode(c.b, c.at); e != c.e || end != 0 || !rec.Same(r, rec.Record{}) {
			t.Errorf("P15.2: case %d: %v, %d, %d; want %d", i, r, end, e, c.e)
		}
	}
	for n := range good {
		if r, end, e := rec.Decode(good[:n], 0); e != api.ErrShort || end != 0 || !rec.Same(r, rec.Record{}) {
			t.Errorf("P15.2: the first %d bytes: %v, %d, %d", n, r, end, e)
		}
	}
}

func TestATurnedByteIsFound(t *testing.T) {
	b, _ := rec.Encode(record(2, 77, 1234567, "some text"))
	for at := 2; at < len(b); at++ {
		for x := 1; x < 256; x++ {
			c := slices.Clone(b)
			c[at] ^= byte(x)
			if r, _, e := rec.Decode(c, 0); e == api.OK {
				t.Fatalf("P15.4: byte %d turned by %X reads as %v", at, x, r)
			}
		}
	}
}

func TestDecodeOfEncode(t *testing.T) {
	r := rand.New(rand.NewSource(1))
	var all []byte
	var l []rec.Record
	for range 500 {
		x := rec.Record{Kind: 1 + r.Intn(2), Seq: 1 + r.Uint64()>>2>>r.Intn(60), Time: r.Uint64() >> 2 >> r.Intn(60), Body: make([]byte, r.Intn(300))}
		r.Read(x.Body)
		b, e := rec.Encode(x)
		if e != api.OK {
			t.Fatal("P15.1:", x.Kind, x.Seq, x.Time, e)
		}
		all, l = append(all, b...), append(l, x)
	}
	at := 0
	for i, x := range l {
		got, end, e := rec.Decode(all, at)
		if !rec.Same(got, x) || e != api.OK {
			t.Fatalf("P15.4: record %d comes back as %v, %d", i, got, e)
		}
		at = end
	}
	if at != len(all) {
		t.Errorf("P15.4: %d bytes of %d", at, len(all))
	}
}

func TestSame(t *testing.T) {
	a := record(1, 2, 3, "abc")
	if !rec.Same(a, record(1, 2, 3, "abc")) || !rec.Same(rec.Record{Body: []byte{}}, rec.Record{}) {
		t.Error("P15.2: Same")
	}
	for _, b := range []rec.Record{record(2, 2, 3, "abc"), record(1, 3, 3, "abc"), record(1, 2, 4, "abc"), record(1, 2, 3, "abd"), record(1, 2, 3, "ab")} {
		if rec.Same(a, b) || rec.Same(b, a) {
			t.Errorf("P15.2: Same of %v", b)
		}
	}
}

func TestNothingIsShared(t *testing.T) {
	body := []byte("abcdef")
	r := rec.Record{Kind: 1, Seq: 1, Body: body[:3]}
	b, _ := rec.Encode(r)
	in := append(slices.Clone(b), 7, 7)
	got, end, _ := rec.Decode(in, 0)
	in[end-1] = 'x'
	_ = append(got.Body, 'y')
	if string(got.Body) != "abc" || in[end] != 7 || string(body) != "abcdef" {
		t.Errorf("P15.3: %q, %q, % X", got.Body, body, in)
	}
	body[0] = 'z'
	if c, _ := rec.Encode(record(1, 1, 0, "abc")); !bytes.Equal(b, c) {
		t.Error("P15.3: Encode shares its Body")
	}
}

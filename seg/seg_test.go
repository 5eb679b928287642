package seg_test

import (
	"bytes"
	"math"
	"slices"
	"strings"
	"testing"

	"tickertape/api"
	"tickertape/rec"
	"tickertape/seg"
	"tickertape/wire"
)

func record(kind int, seq, time uint64) rec.Record {
	return rec.Record{Kind: kind, Seq: seq, Time: time, Body: []byte{byte(seq), byte(time)}}
}

func header(t *testing.T, num int, first uint64) []byte {
	t.Helper()
	b, e := seg.Header(seg.Head{Num: num, First: first})
	if e != api.OK || len(b) != seg.Len {
		t.Fatal("P16.1: Header:", e)
	}
	return b
}

// file is a segment's bytes, and where each record ends.
func file(t *testing.T, num int, first uint64, l ...rec.Record) ([]byte, []int) {
	t.Helper()
	b := header(t, num, first)
	var ends []int
	for _, r := range l {
		x, e := rec.Encode(r)
		if e != api.OK {
			t.Fatal("P15.1:", e)
		}
		b = append(b, x...)
		ends = append(ends, len(b))
	}
	return b, ends
}

func TestName(t *testing.T) {
	for n, want := range map[int]string{1: "s000001", 7: "s000007", 42: "s000042", 123456: "s123456", 999999: "s999999"} {
		if got := seg.Name(n); got != want {
			t.Errorf("P16.1: Name(%d) is %q", n, got)
		}
		if got, ok := seg.Number(want); got != n || !ok {
			t.Errorf("P16.1: Number(%q) is %d, %v", want, got, ok)
		}
	}
	for _, n := range []int{0, -1, -999999, 1000000, math.MinInt, math.MaxInt} {
		if got := seg.Name(n); got != "" {
			t.Errorf("P16.1: Name(%d) is %q", n, got)
		}
	}
	for _, s := range []string{"", "s", "s000000", "s00001", "s0000001", "S000001", "000001", "s+00001", "s-00001", "s00000a", "s 00001", "s1_0000", "s000001 ", "xs000001", "s1000000", "man", "s0x0001"} {
		if n, ok := seg.Number(s); n != 0 || ok {
			t.Errorf("P16.1: Number(%q) is %d, %v", s, n, ok)
		}
	}
}

func TestHeader(t *testing.T) {
	want := []byte("TTS1\x00\x01\x02\x03\x01\x02\x03\x04\x05\x06\x07\x08")
	want = append(want, wire.Four(wire.Crc(want))...)
	if got := header(t, 0x010203, 0x0102030405060708); !bytes.Equal(got, want) || seg.Len != 20 || seg.Most != 999999 {
		t.Errorf("P16.1: % X", got)
	}
	header(t, 1, 1)
	header(t, seg.Most, api.MaxCount)
	for _, h := range []seg.Head{{}, {Num: 0, First: 1}, {Num: -1, First: 1}, {Num: seg.Most + 1, First: 1}, {Num: math.MaxInt, First: 1}, {Num: 1<<32 + 1, First: 1}, {Num: 1}, {Num: 1, First: api.MaxCount + 1}, {Num: 1, First: math.MaxUint64}} {
		if b, e := seg.Header(h); b != nil || e != api.ErrRange {
			t.Errorf("P16.1: %v: % X, %d", h, b, e)
		}
	}
}

// is tells whether s has these records, one behind the other from Len on.
func is(s seg.Scan, l []rec.Record, ends []int) bool {
	at := seg.Len
	if len(s.Parts) != len(l) {
		return false
	}
	for i, p := range s.Parts {
		if !rec.Same(p.Record, l[i]) || p.Seq != l[i].Seq || p.At != at || p.End != ends[i] {
			return false
		}
		at = ends[i]
	}
	return s.Good == at
}

func TestRead(t *testing.T) {
	l := []rec.Record{record(rec.Key, 5, 10), record(rec.Diff, 6, 10), record(rec.Diff, 7, 12), record(rec.Key, 8, 99)}
	b, ends := file(t, 3, 5, l...)
	s, e := seg.Read(b)
	if e != api.OK || s.Num != 3 || s.First != 5 || !is(s, l, ends) {
		t.Errorf("P16.2: %v, %d", s, e)
	}
	for n := seg.Len; n <= len(b); n++ {
		count := 0
		for count < len(ends) && ends[count] <= n {
			count++
		}
		if s, e := seg.Read(b[:n]); e != api.OK || s.Head != (seg.Head{Num: 3, First: 5}) || !is(s, l[:count], ends[:count]) {
			t.Errorf("P16.4: the first %d bytes: %v, %d", n, s, e)
		}
	}
	junk := append(slices.Clone(b), "junk that is no record"...)
	if s, e := seg.Read(junk); e != api.OK || !is(s, l, ends) {
		t.Errorf("P16.2: with junk: %v, %d", s, e)
	}
	junk = slices.Clone(b)
	junk[ends[1]+8] ^= 1
	if s, e := seg.Read(junk); e != api.OK || !is(s, l[:2], ends[:2]) {
		t.Errorf("P16.2: with a torn record: %v, %d", s, e)
	}
}

func TestReadEndsAtWhatDoesNotFollow(t *testing.T) {
	for i, c := range []struct {
		l    []rec.Record
		good int
	}{
		{[]rec.Record{record(rec.Diff, 5, 1)}, 0}, {[]rec.Record{record(rec.Key, 6, 1)}, 0}, {[]rec.Record{record(rec.Key, 4, 1)}, 0}, {[]rec.Record{record(rec.Key, 5, 1), record(rec.Key, 5, 1)}, 1}, {[]rec.Record{record(rec.Key, 5, 1), record(rec.Diff, 7, 1), record(rec.Diff, 6, 1)}, 1},
		{[]rec.Record{record(rec.Key, 5, 9), record(rec.Diff, 6, 8)}, 1}, {[]rec.Record{record(rec.Key, 5, 9), record(rec.Diff, 6, 9), record(rec.Diff, 7, 0), record(rec.Diff, 8, 9)}, 2}, {[]rec.Record{record(rec.Key, 5, 0), record(rec.Key, 6, api.MaxTick)}, 2}, {nil, 0},
	} {
		b, ends := file(t, 1, 5, c.l...)
		if s, e := seg.Read(b); e != api.OK || !is(s, c.l[:c.good], ends[:c.good]) {
			t.Errorf("P16.2: case %d: %v, %d", i, s, e)
		}
	}
	b, _ := file(t, 1, api.MaxCount, record(rec.Key, api.MaxCount, 1), record(rec.Key, 1, 1))
	if s, e := seg.Read(b); e != api.OK || len(s.Parts) != 1 {
		t.Errorf("P16.2: the last Seq: %v, %d", s, e)
	}
}

func TestReadRefuses(t *testing.T) {
	b, _ := file(t, 1, 1, record(rec.Key, 1, 1))
	sealed := func(s string) []byte { return append([]byte(s), wire.Four(wire.Crc([]byte(s)))...) }
	bad := [][]byte{nil, b[1:], sealed("TTS2\x00\x00\x00\x01\x00\x00\x00\x00\x00\x00\x00\x01"), sealed("TTS1\x00\x00\x00\x00\x00\x00\x00\x00\x00\x00\x00\x01"), sealed("TTS1\x00\x0F\x42\x40\x00\x00\x00\x00\x00\x00\x00\x01"), sealed("TTS1\x00\x00\x00\x01" + strings.Repeat("\x00", 8)), sealed("TTS1\x00\x00\x00\x01" + strings.Repeat("\xFF", 8))}
	for n := range seg.Len {
		bad = append(bad, b[:n])
		c := slices.Clone(b)
		c[n] ^= 4
		bad = append(bad, c)
	}
	for i, b := range bad {
		if s, e := seg.Read(b); e != api.ErrForm || s.Good != 0 || s.Parts != nil || s.Head != (seg.Head{}) {
			t.Errorf("P16.2: case %d: %v, %d", i, s, e)
		}
	}
}

func TestNothingIsShared(t *testing.T) {
	b, _ := file(t, 1, 1, record(rec.Key, 1, 1), record(rec.Diff, 2, 1))
	s, _ := seg.Read(b)
	for i := range b {
		b[i] = 0xEE
	}
	_ = append(s.Parts[0].Body, 7, 7, 7, 7)
	if !rec.Same(s.Parts[0].Record, record(rec.Key, 1, 1)) || !rec.Same(s.Parts[1].Record, record(rec.Diff, 2, 1)) {
		t.Errorf("P16.3: %v", s)
	}
	h := header(t, 1, 1)
	h[0] = 'x'
	if again := header(t, 1, 1); again[0] != 'T' {
		t.Error("P16.3: Header hands out the same memory twice")
	}
}

package seek_test

import (
	"math"
	"math/rand"
	"strings"
	"testing"

	"tickertape/api"
	"tickertape/cell"
	"tickertape/disk"
	"tickertape/film"
	"tickertape/index"
	"tickertape/log"
	"tickertape/rec"
	"tickertape/screen"
	"tickertape/seek"
)

var conf = film.Conf{Conf: log.Conf{Segment: 4096, Keep: 1 << 20, Age: 10}, Every: 3}

func open(t *testing.T, c film.Conf) (*film.Film, *disk.Disk) {
	t.Helper()
	d, e := disk.New(1 << 20)
	if e != api.OK {
		t.Fatal("P5.1:", e)
	}
	f, e := film.Open(d, c)
	if e != api.OK {
		t.Fatal("P20.1:", e)
	}
	return f, d
}

// of is a screen of one row.
func of(line string) screen.Screen {
	s := screen.Screen{Rows: 1, Cols: len(line)}
	for i := range len(line) {
		s.Cells = append(s.Cells, cell.Cell{Rune: rune(line[i])})
	}
	return s
}

// record pushes a, b, c ... at these times.
func record(t *testing.T, f *film.Film, times ...uint64) {
	t.Helper()
	for i, time := range times {
		if _, e := f.Push(time, of(string(rune('a'+i)))); e != api.OK {
			t.Fatal("P20.2:", e)
		}
	}
}

func same(a, b seek.Found) bool {
	return screen.Same(a.Screen, b.Screen) && a.Seq == b.Seq && a.Time == b.Time && a.Decoded == b.Decoded
}

func TestOfNothing(t *testing.T) {
	f, d := open(t, conf)
	ops := d.Ops()
	if lo, hi, ok := seek.Ends(f); lo != 0 || hi != 0 || ok {
		t.Errorf("P21.1: %d, %d, %v", lo, hi, ok)
	}
	for _, time := range []uint64{0, 5, math.MaxUint64} {
		if got, e := seek.At(f, nil, time); !same(got, seek.Found{}) || e != api.ErrNone || d.Ops() != ops {
			t.Errorf("P21.2: At(%d): %v, %d", time, got, e)
		}
	}
}

func TestAt(t *testing.T) {
	f, d := open(t, conf)
	// The keys: a, d, e (a segment of its own), h.
	record(t, f, 5, 5, 8, 9, 15, 15, 20, 20, 24)
	if s := f.Segs(); len(s) != 2 || s[1].First != 5 {
		t.Fatal("P18.2:", s)
	}
	ops := d.Ops()
	if lo, hi, ok := seek.Ends(f); lo != 5 || hi != 24 || !ok || d.Ops() != ops {
		t.Errorf("P21.1: %d, %d, %v", lo, hi, ok)
	}
	for time := range uint64(5) {
		if got, e := seek.At(f, nil, time); !same(got, seek.Found{}) || e != api.ErrExpired {
			t.Errorf("P21.2: At(%d): %v, %d", time, got, e)
		}
	}
	for _, c := range []struct {
		time    uint64
		sign    string
		seq     uint64
		stood   uint64
		decoded int
	}{
		{5, "b", 2, 5, 2}, {7, "b", 2, 5, 2}, {8, "c", 3, 8, 3}, {9, "d", 4, 9, 1}, {14, "d", 4, 9, 1}, {15, "f", 6, 15, 2}, {19, "f", 6, 15, 2}, {20, "h", 8, 20, 1}, {23, "h", 8, 20, 1}, {24, "i", 9, 24, 2}, {25, "i", 9, 24, 2}, {math.MaxUint64, "i", 9, 24, 2},
	} {
		ops := d.Ops()
		got, e := seek.At(f, nil, c.time)
		want := seek.Found{Screen: of(c.sign), Seq: c.seq, Time: c.stood, Decoded: c.decoded}
		if !same(got, want) || e != api.OK || d.Ops() != ops+1 {
			t.Errorf("P21.2: At(%d): %v, %d, %d operations; want %v", c.time, got, e, d.Ops()-ops, want)
		}
	}
}

func TestTheLastSegmentOfATime(t *testing.T) {
	c := conf
	c.Segment, c.Every = 64, 1
	f, _ := open(t, c)
	record(t, f, 5, 5, 5, 5, 5)
	if len(f.Segs()) < 2 {
		t.Fatal("P18.2:", f.Segs())
	}
	if got, e := seek.At(f, nil, 5); got.Seq != 5 || e != api.OK {
		t.Errorf("P21.2: %v, %d", got, e)
	}
}

func TestAtThatFails(t *testing.T) {
	f, d := open(t, conf)
	record(t, f, 0, 1, 20, 21)
	d.Delete("s000001")
	if got, e := seek.At(f, nil, 1); !same(got, seek.Found{}) || e != api.ErrNone {
		t.Errorf("P21.2: without the segment: %v, %d", got, e)
	}
	if got, e := seek.At(f, nil, 21); got.Seq != 4 || e != api.OK {
		t.Errorf("P21.2: of the other segment: %v, %d", got, e)
	}
	b, _ := d.Peek("s000002")
	d.Truncate("s000002", 19)
	if got, e := seek.At(f, nil, 21); !same(got, seek.Found{}) || e != api.ErrForm {
		t.Errorf("P21.2: of a spoilt segment: %v, %d", got, e)
	}
	d.Truncate("s000002", 0)
	d.Append("s000002", b[:20])
	if got, e := seek.At(f, nil, 21); !same(got, seek.Found{}) || e == api.OK {
		t.Errorf("P0.1: of a segment without a record: %v, %d", got, e)
	}
	d.Append("s000002", b[20:])
	d.Crash()
	if got, e := seek.At(f, nil, 21); !same(got, seek.Found{}) || e != api.ErrDown {
		t.Errorf("P21.2: down: %v, %d", got, e)
	}
	if got, e := seek.At(f, nil, 0); e != api.ErrDown || !same(got, seek.Found{}) {
		t.Errorf("P21.2: down: %v, %d", got, e)
	}
	if lo, hi, ok := seek.Ends(f); lo != 0 || hi != 21 || !ok {
		t.Errorf("P21.1: down: %d, %d, %v", lo, hi, ok)
	}
}

func TestARecordThatIsNoScreens(t *testing.T) {
	f, _ := open(t, conf)
	record(t, f, 0, 1)
	if e := f.Append(rec.Record{Kind: rec.Diff, Seq: 3, Time: 2, Body: []byte("none")}); e != api.OK {
		t.Fatal("P18.2:", e)
	}
	if e := f.Append(rec.Record{Kind: rec.Key, Seq: 4, Time: 3, Body: []byte("none")}); e != api.OK {
		t.Fatal("P18.2:", e)
	}
	if got, e := seek.At(f, nil, 1); got.Seq != 2 || e != api.OK {
		t.Errorf("P21.2: ahead of it: %v, %d", got, e)
	}
	for _, time := range []uint64{2, 3, 9} {
		if got, e := seek.At(f, nil, time); !same(got, seek.Found{}) || e != api.ErrForm {
			t.Errorf("P21.2: At(%d): %v, %d", time, got, e)
		}
	}
}

func TestTheScreenThatStood(t *testing.T) {
	r := rand.New(rand.NewSource(1))
	for range 60 {
		c := film.Conf{Conf: log.Conf{Segment: 64 + r.Intn(300), Keep: 500 + r.Intn(900), Age: 1 + uint64(r.Intn(30))}, Every: 1 + r.Intn(6)}
		f, _ := open(t, c)
		var times []uint64
		var stood []screen.Screen
		time := uint64(r.Intn(5))
		for range 60 {
			time += uint64(r.Intn(4))
			s := of(strings.Repeat("ab", 1+r.Intn(2)))
			s.Cells[r.Intn(len(s.Cells))].Rune = 'a' + rune(r.Intn(3))
			if seq, e := f.Push(time, s); e != api.OK {
				t.Fatal("P20.2:", e)
			} else if seq > 0 {
				times, stood = append(times, time), append(stood, s)
			}
			f.Retain()
		}
		l, _ := index.Build(f.Log)
		first := int(f.Segs()[0].First) - 1
		before := uint64(0)
		for now := range time + 3 {
			got, e := seek.At(f, l, now)
			if now < times[first] {
				if e != api.ErrExpired || !same(got, seek.Found{}) {
					t.Fatalf("P0.9: At(%d): %v, %d", now, got, e)
				}
				continue
			}
			want := first
			for want+1 < len(times) && times[want+1] <= now {
				want++
			}
			if e != api.OK || !screen.Same(got.Screen, stood[want]) || got.Time != times[want] || got.Seq != uint64(want)+1 || got.Decoded < 1 || got.Decoded > c.Every || got.Seq < before {
				t.Fatalf("P21.4, P0.9: At(%d): %v, %d; want %d", now, got, e, want+1)
			}
			before = got.Seq
			for _, hint := range [][]index.Entry{nil, l[:len(l)/2], {{Seq: 1, Time: now, Num: r.Intn(9), At: r.Intn(99)}}, {l[r.Intn(len(l))], {Num: -1, At: -1}}} {
				if again, e := seek.At(f, hint, now); e != api.OK || !same(again, got) {
					t.Fatalf("P21.2: with the hint %v: %v, %d; want %v", hint, again, e, got)
				}
			}
		}
	}
}

func TestNothingIsShared(t *testing.T) {
	f, _ := open(t, conf)
	record(t, f, 0, 1)
	got, _ := seek.At(f, nil, 1)
	got.Screen.Cells[0].Rune = 'x'
	if again, _ := seek.At(f, nil, 1); !screen.Same(again.Screen, of("b")) {
		t.Errorf("P21.3: %v", again)
	}
	if s, _ := f.Shown(); !screen.Same(s, of("b")) {
		t.Errorf("P21.3: %v", s)
	}
}

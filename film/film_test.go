package film_test

import (
	"math/rand"
	"slices"
	"strings"
	"testing"

	"tickertape/api"
	"tickertape/cell"
	"tickertape/diff"
	"tickertape/disk"
	"tickertape/film"
	"tickertape/key"
	"tickertape/log"
	"tickertape/rec"
	"tickertape/screen"
)

var conf = film.Conf{Conf: log.Conf{Segment: 4096, Keep: 1 << 20, Age: 1000}, Every: 3}

func newDisk(t *testing.T, room int) *disk.Disk {
	t.Helper()
	d, e := disk.New(room)
	if e != api.OK {
		t.Fatal("P5.1:", e)
	}
	return d
}

func open(t *testing.T, d *disk.Disk, c film.Conf) *film.Film {
	t.Helper()
	f, e := film.Open(d, c)
	if f == nil || e != api.OK {
		t.Fatal("P20.1: Open:", e)
	}
	return f
}

// of is a screen of one row.
func of(line string) screen.Screen {
	s := screen.Screen{Rows: 1, Cols: len(line)}
	for i := range len(line) {
		s.Cells = append(s.Cells, cell.Cell{Rune: rune(line[i])})
	}
	return s
}

func push(t *testing.T, f *film.Film, time uint64, s screen.Screen, want uint64) {
	t.Helper()
	if seq, e := f.Push(time, s); seq != want || e != api.OK {
		t.Fatalf("P20.2: Push at %d: %d, %d; want %d", time, seq, e, want)
	}
}

func records(t *testing.T, f *film.Film) []rec.Record {
	t.Helper()
	var l []rec.Record
	for _, s := range f.Segs() {
		scan, e := f.Read(s.Num)
		if e != api.OK {
			t.Fatal("P18.3:", e)
		}
		for _, p := range scan.Parts {
			l = append(l, p.Record)
		}
	}
	return l
}

// kinds is K for each Key, d for each Diff.
func kinds(l []rec.Record) string {
	s := ""
	for _, r := range l {
		s += map[int]string{rec.Key: "K", rec.Diff: "d"}[r.Kind]
	}
	return s
}

func TestMayConf(t *testing.T) {
	for _, every := range []int{1, 3, 1000} {
		c := conf
		c.Every = every
		if f := open(t, newDisk(t, 0), c); !film.MayConf(c) || f.Every() != every {
			t.Errorf("P20.1: Every %d", every)
		}
	}
	bad := conf
	bad.Segment = 63
	for _, c := range []film.Conf{{}, {Conf: conf.Conf}, {Conf: conf.Conf, Every: -1}, {Conf: conf.Conf, Every: 1001}, bad} {
		d := newDisk(t, 100)
		if f, e := film.Open(d, c); film.MayConf(c) || f != nil || e != api.ErrRange || d.Ops() != 0 {
			t.Errorf("P20.1: %v: %d", c, e)
		}
	}
	d := newDisk(t, 100)
	d.Crash()
	if f, e := film.Open(d, conf); f != nil || e != api.ErrDown {
		t.Errorf("P20.1: down: %d", e)
	}
}

func TestPush(t *testing.T) {
	f := open(t, newDisk(t, 1<<20), conf)
	if s, ok := f.Shown(); ok || !screen.Same(s, screen.Screen{}) {
		t.Errorf("P20.2: Shown of none: %v", s)
	}
	push(t, f, 5, of("abc"), 1)
	if s, ok := f.Shown(); !ok || !screen.Same(s, of("abc")) {
		t.Errorf("P20.2: Shown: %v", s)
	}
	push(t, f, 5, of("abc"), 0)
	push(t, f, 9, of("abc"), 0)
	push(t, f, 9, of("abx"), 2)
	push(t, f, 9, of("abc"), 3)
	body, _ := key.Encode(of("abc"))
	there, _ := diff.Make(of("abc"), of("abx"))
	back, _ := diff.Make(of("abx"), of("abc"))
	want := []rec.Record{{Kind: rec.Key, Seq: 1, Time: 5, Body: body}, {Kind: rec.Diff, Seq: 2, Time: 9, Body: there}, {Kind: rec.Diff, Seq: 3, Time: 9, Body: back}}
	if l := records(t, f); !slices.EqualFunc(l, want, rec.Same) {
		t.Errorf("P20.2: %v", l)
	}
	last := open(t, newDisk(t, 1<<20), conf)
	push(t, last, api.MaxTick, of("abc"), 1)
	bad := of("abc")
	bad.Row = 1
	for i, c := range []struct {
		time uint64
		s    screen.Screen
	}{{8, of("abd")}, {8, of("abc")}, {9, bad}, {9, screen.Screen{}}, {api.MaxTick + 1, of("abd")}, {1<<64 - 1, of("abc")}} {
		if seq, e := f.Push(c.time, c.s); seq != 0 || e != api.ErrRange {
			t.Errorf("P20.2: case %d: %d, %d", i, seq, e)
		}
	}
	if s, _ := f.Shown(); !screen.Same(s, of("abc")) || len(records(t, f)) != 3 {
		t.Errorf("P20.2: an error changes %v", s)
	}
}

func TestKeysAmongDiffs(t *testing.T) {
	for every, want := range map[int]string{1: "KKKKKKK", 2: "KdKdKdK", 3: "KddKddK", 1000: "Kdddddd"} {
		c := conf
		c.Every = every
		f := open(t, newDisk(t, 1<<20), c)
		for i := range uint64(7) {
			push(t, f, i, of(string(rune('a'+i))), i+1)
			push(t, f, i, of(string(rune('a'+i))), 0)
		}
		if got := kinds(records(t, f)); got != want {
			t.Errorf("P20.2: Every %d: %s", every, got)
		}
	}
	c := conf
	c.Every, c.Age = 1000, 10
	f := open(t, newDisk(t, 1<<20), c)
	for i, time := range []uint64{0, 3, 9, 10, 11, 19, 20, 20} {
		push(t, f, time, of(string(rune('a'+i))), uint64(i)+1)
	}
	if got := kinds(records(t, f)); got != "KddKddKd" || len(f.Segs()) != 3 {
		t.Errorf("P20.2: Due: %s, %v", got, f.Segs())
	}
	c.Every, c.Age = 3, 10
	f = open(t, newDisk(t, 1<<20), c)
	for i, time := range []uint64{0, 1, 10, 10, 10, 10} {
		push(t, f, time, of(string(rune('a'+i))), uint64(i)+1)
	}
	if got := kinds(records(t, f)); got != "KdKddK" {
		t.Errorf("P20.2: Every counts from the last Key: %s", got)
	}
}

func TestAnotherFilmBeginsWithAKey(t *testing.T) {
	d := newDisk(t, 1<<20)
	f := open(t, d, conf)
	push(t, f, 1, of("a"), 1)
	push(t, f, 2, of("b"), 2)
	f.Sync()
	f = open(t, d, conf)
	if _, ok := f.Shown(); ok {
		t.Error("P20.1: a Film that is opened has shown something")
	}
	push(t, f, 2, of("b"), 3)
	push(t, f, 2, of("c"), 4)
	push(t, f, 2, of("d"), 5)
	push(t, f, 2, of("e"), 6)
	if got := kinds(records(t, f)); got != "KdKddK" {
		t.Errorf("P20.2: %s", got)
	}
}

func TestPushThatFails(t *testing.T) {
	d := newDisk(t, 160)
	c := conf
	c.Segment, c.Every = 64, 4
	f := open(t, d, c)
	push(t, f, 0, of("a"), 1)
	push(t, f, 0, of("b"), 2)
	long := of(strings.Repeat("xyz", 60))
	for range 3 {
		if seq, e := f.Push(1, long); seq != 0 || e != api.ErrFull {
			t.Errorf("P20.2: without room: %d, %d", seq, e)
		}
		if s, ok := f.Shown(); !ok || !screen.Same(s, of("b")) {
			t.Errorf("P20.2: an error changes what was shown: %v", s)
		}
	}
	push(t, f, 1, of("b"), 0)
	d = newDisk(t, 1<<20)
	f = open(t, d, conf)
	d.Crash()
	if seq, e := f.Push(1, of("a")); seq != 0 || e != api.ErrDown {
		t.Errorf("P20.2: down: %d, %d", seq, e)
	}
	if _, ok := f.Shown(); ok {
		t.Error("P20.2: an error shows something")
	}
	d.Reboot()
	push(t, f, 1, of("a"), 1)
	if got := kinds(records(t, f)); got != "K" {
		t.Errorf("P20.2: %s", got)
	}
}

func TestAFailedPushMakesNoRecord(t *testing.T) {
	d := newDisk(t, 1<<20)
	f := open(t, d, conf)
	push(t, f, 0, of("a"), 1)
	push(t, f, 0, of("b"), 2)
	f.Sync()
	for _, line := range []string{"c", "d"} {
		d.Arm(1)
		if seq, e := f.Push(0, of(line)); seq != 0 || e != api.ErrDown {
			t.Errorf("P20.2: %d, %d", seq, e)
		}
		d.Reboot()
	}
	push(t, f, 0, of("c"), 3)
	push(t, f, 0, of("d"), 4)
	if got := kinds(records(t, f)); got != "KddK" {
		t.Errorf("P20.2: a record that was not made counts: %s", got)
	}
}

func TestTheLastSeq(t *testing.T) {
	d := newDisk(t, 1<<20)
	f := open(t, d, conf)
	body, _ := key.Encode(of("a"))
	if e := f.Append(rec.Record{Kind: rec.Key, Seq: api.MaxCount - 1, Time: 3, Body: body}); e != api.OK {
		t.Fatal("P18.2:", e)
	}
	push(t, f, 3, of("a"), api.MaxCount)
	push(t, f, 3, of("a"), 0)
	if seq, e := f.Push(3, of("b")); seq != 0 || e != api.ErrCounter {
		t.Errorf("P20.2: %d, %d", seq, e)
	}
	if seq, e := f.Push(2, of("b")); seq != 0 || e != api.ErrRange {
		t.Errorf("P20.2: %d, %d", seq, e)
	}
}

func TestFrame(t *testing.T) {
	f := open(t, newDisk(t, 0), conf)
	body, _ := key.Encode(of("abc"))
	change, _ := diff.Make(of("abc"), of("abx"))
	for i, c := range []struct {
		base screen.Screen
		r    rec.Record
		want screen.Screen
		e    api.Errno
	}{
		{screen.Screen{}, rec.Record{Kind: rec.Key, Body: body}, of("abc"), api.OK}, {of("abc"), rec.Record{Kind: rec.Diff, Body: change}, of("abx"), api.OK}, {screen.Screen{}, rec.Record{Kind: rec.Diff, Body: change}, screen.Screen{}, api.ErrRange},
		{of("a"), rec.Record{Kind: rec.Diff, Body: change}, screen.Screen{}, api.ErrForm}, {of("a"), rec.Record{Kind: rec.Key, Body: change}, screen.Screen{}, api.ErrForm}, {of("a"), rec.Record{Kind: 0, Body: body}, screen.Screen{}, api.ErrForm}, {of("a"), rec.Record{Kind: 3, Body: body}, screen.Screen{}, api.ErrForm}, {of("a"), rec.Record{Kind: rec.Key}, screen.Screen{}, api.ErrForm},
	} {
		if s, e := f.Frame(c.base, c.r); !screen.Same(s, c.want) || e != c.e {
			t.Errorf("P20.3: case %d: %v, %d", i, s, e)
		}
	}
}

func TestFrameByFrame(t *testing.T) {
	r := rand.New(rand.NewSource(1))
	for range 100 {
		c := film.Conf{Conf: log.Conf{Segment: 64 + r.Intn(300), Keep: 1 << 20, Age: 1 + uint64(r.Intn(30))}, Every: 1 + r.Intn(6)}
		f := open(t, newDisk(t, 1<<20), c)
		var pushed []screen.Screen
		time := uint64(0)
		for range 60 {
			time += uint64(r.Intn(4))
			s := of(strings.Repeat("ab", 1+r.Intn(2)))
			s.Cells[r.Intn(len(s.Cells))].Rune = 'a' + rune(r.Intn(3))
			seq, e := f.Push(time, s)
			if e != api.OK || seq != 0 && seq != uint64(len(pushed))+1 {
				t.Fatalf("P20.2: %d, %d", seq, e)
			}
			if seq > 0 {
				pushed = append(pushed, s)
			}
		}
		since, base := 0, screen.Screen{}
		for i, x := range records(t, f) {
			since++
			if x.Kind == rec.Key {
				since, base = 0, screen.Screen{}
			}
			s, e := f.Frame(base, x)
			if e != api.OK || !screen.Same(s, pushed[i]) || since >= c.Every {
				t.Fatalf("P20.5: record %d: %v, %d, %d behind a Key", i, s, e, since)
			}
			base = s
		}
	}
}

func TestNothingIsShared(t *testing.T) {
	f := open(t, newDisk(t, 1<<20), conf)
	in := of("abc")
	push(t, f, 0, in, 1)
	in.Cells[0].Rune = 'x'
	s, _ := f.Shown()
	s.Cells[1].Rune = 'x'
	if s, _ := f.Shown(); !screen.Same(s, of("abc")) {
		t.Errorf("P20.4: %v", s)
	}
	push(t, f, 0, of("abc"), 0)
}

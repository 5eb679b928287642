package log_test

import (
	"math"
	"math/rand"
	"slices"
	"testing"

	"tickertape/api"
	"tickertape/disk"
	"tickertape/log"
	"tickertape/man"
	"tickertape/rec"
	"tickertape/seg"
)

var small = log.Conf{Segment: 64, Keep: 200, Age: 100}

func newDisk(t *testing.T, room int) *disk.Disk {
	t.Helper()
	d, e := disk.New(room)
	if e != api.OK {
		t.Fatal("P5.1:", e)
	}
	return d
}

func open(t *testing.T, d *disk.Disk, c log.Conf) *log.Log {
	t.Helper()
	l, e := log.Open(d, c)
	if l == nil || e != api.OK {
		t.Fatal("P18.1: Open:", e)
	}
	return l
}

// record has a body of 10 bytes: 20 bytes in all, as long as its numbers are small.
func record(kind int, seq, time uint64) rec.Record {
	return rec.Record{Kind: kind, Seq: seq, Time: time, Body: []byte("0123456789")}
}

func add(t *testing.T, l *log.Log, records ...rec.Record) {
	t.Helper()
	for _, r := range records {
		if e := l.Append(r); e != api.OK {
			t.Fatalf("P18.2: Append(%d, %d): %d", r.Seq, r.Time, e)
		}
	}
}

// all is the records of all segments.
func all(t *testing.T, l *log.Log) []rec.Record {
	t.Helper()
	var records []rec.Record
	for _, s := range l.Segs() {
		scan, e := l.Read(s.Num)
		if e != api.OK || scan.Num != s.Num || scan.First != s.First || scan.Good < s.Size {
			t.Fatalf("P18.3: Read(%d): %v, %d", s.Num, scan.Head, e)
		}
		for _, p := range scan.Parts {
			records = append(records, p.Record)
		}
	}
	return records
}

func files(d *disk.Disk) []string {
	l, _ := d.List()
	return l
}

func peek(d *disk.Disk, name string) []byte {
	b, _ := d.Peek(name)
	return b
}

func TestMayConf(t *testing.T) {
	for _, c := range []log.Conf{{Segment: 64, Age: 1}, {Segment: 1 << 20, Keep: api.MaxDisk, Age: api.MaxTick}, small} {
		if !log.MayConf(c) {
			t.Errorf("P18.1: %v", c)
		}
	}
	for _, c := range []log.Conf{{}, {Segment: 63, Age: 1}, {Segment: 1<<20 + 1, Age: 1}, {Segment: 64, Keep: -1, Age: 1}, {Segment: 64, Keep: api.MaxDisk + 1, Age: 1}, {Segment: 64}, {Segment: 64, Age: api.MaxTick + 1}, {Segment: math.MinInt, Age: 1}} {
		d := newDisk(t, 100)
		if l, e := log.Open(d, c); log.MayConf(c) || l != nil || e != api.ErrRange || d.Ops() != 0 {
			t.Errorf("P18.1: %v: %d", c, e)
		}
	}
}

func TestOpenOfAnEmptyDisk(t *testing.T) {
	d := newDisk(t, 1000)
	l := open(t, d, small)
	seq, time, ok := l.Last()
	if len(l.Segs()) != 0 || !l.Due(0) || !l.Due(math.MaxUint64) || seq != 0 || time != 0 || ok || d.Ops() != 2 || l.Sync() != api.OK || d.Ops() != 2 {
		t.Errorf("P18.1: %v, %d operations", l.Segs(), d.Ops())
	}
	if n, e := l.Retain(); n != 0 || e != api.OK || d.Ops() != 2 {
		t.Errorf("P18.3: Retain of none: %d, %d", n, e)
	}
	if s, e := l.Read(1); e != api.ErrNone || s.Parts != nil || d.Ops() != 2 {
		t.Errorf("P18.3: Read of none: %d", e)
	}
}

func TestAppend(t *testing.T) {
	d := newDisk(t, 1000)
	l := open(t, d, small)
	for i, r := range []rec.Record{record(rec.Diff, 1, 0), record(rec.Key, 0, 0), record(3, 1, 0), record(rec.Key, 1, api.MaxTick+1)} {
		if e := l.Append(r); e != api.ErrRange {
			t.Errorf("P18.2: case %d: %d", i, e)
		}
	}
	add(t, l, record(rec.Key, 7, 10))
	head, _ := seg.Header(seg.Head{Num: 1, First: 7})
	b, _ := rec.Encode(record(rec.Key, 7, 10))
	if string(peek(d, "s000001")) != string(head)+string(b) || d.Sure("s000001") != 40 {
		t.Errorf("P18.2: the first segment: % X, %d sure", peek(d, "s000001"), d.Sure("s000001"))
	}
	if nums, e := man.Load(d); !slices.Equal(nums, []int{1}) || e != api.OK {
		t.Errorf("P18.2: the manifest: %v, %d", nums, e)
	}
	for i, r := range []rec.Record{record(rec.Key, 7, 10), record(rec.Diff, 9, 10), record(rec.Diff, 6, 10), record(rec.Diff, 8, 9), record(0, 8, 10)} {
		if e := l.Append(r); e != api.ErrRange {
			t.Errorf("P18.2: case %d: %d", i, e)
		}
	}
	ops := d.Ops()
	add(t, l, record(rec.Diff, 8, 10))
	if d.Ops() != ops+1 || d.Sure("s000001") != 40 || len(peek(d, "s000001")) != 60 {
		t.Errorf("P18.2: Append of a Diff: %d operations", d.Ops()-ops)
	}
	if e := l.Sync(); e != api.OK || d.Sure("s000001") != 60 || d.Ops() != ops+2 {
		t.Errorf("P18.3: Sync: %d", e)
	}
	want := []log.Seg{{Num: 1, Size: 60, First: 7, Last: 8, From: 10, To: 10}}
	seq, time, ok := l.Last()
	if !slices.Equal(l.Segs(), want) || seq != 8 || time != 10 || !ok {
		t.Errorf("P18.3: %v, %d, %d, %v", l.Segs(), seq, time, ok)
	}
}

func TestDueBySize(t *testing.T) {
	d := newDisk(t, 1000)
	l := open(t, d, small)
	add(t, l, record(rec.Key, 1, 0), record(rec.Diff, 2, 0))
	if l.Due(0) {
		t.Error("P18.2: Due at 60 bytes")
	}
	add(t, l, record(rec.Key, 3, 1))
	if !l.Due(1) || len(l.Segs()) != 1 {
		t.Errorf("P18.2: not Due at 80 bytes: %v", l.Segs())
	}
	add(t, l, record(rec.Diff, 4, 2))
	ops := d.Ops()
	add(t, l, record(rec.Key, 5, 3))
	want := []log.Seg{{Num: 1, Size: 100, First: 1, Last: 4, From: 0, To: 2}, {Num: 2, Size: 40, First: 5, Last: 5, From: 3, To: 3}}
	if !slices.Equal(l.Segs(), want) || d.Sure("s000001") != 100 || d.Sure("s000002") != 40 || d.Ops() != ops+9 {
		t.Errorf("P18.2: rotated: %v, %d operations", l.Segs(), d.Ops()-ops)
	}
	if nums, _ := man.Load(d); !slices.Equal(nums, []int{1, 2}) || !slices.Equal(files(d), []string{"man", "s000001", "s000002"}) {
		t.Errorf("P18.2: rotated: %v", files(d))
	}
	d = newDisk(t, 1000)
	l = open(t, d, log.Conf{Segment: 80, Age: 100})
	add(t, l, record(rec.Key, 1, 0), record(rec.Diff, 2, 0))
	if l.Due(0) {
		t.Error("P18.2: Due below Segment")
	}
	if add(t, l, record(rec.Diff, 3, 0)); !l.Due(0) {
		t.Error("P18.2: not Due at Segment")
	}
}

func TestDueByAge(t *testing.T) {
	d := newDisk(t, 1000)
	l := open(t, d, log.Conf{Segment: 1000, Age: 100})
	add(t, l, record(rec.Key, 1, 50), record(rec.Diff, 2, 120))
	for time, want := range map[uint64]bool{0: false, 49: false, 149: false, 150: true, 151: true, math.MaxUint64: true} {
		if l.Due(time) != want {
			t.Errorf("P18.2: Due(%d)", time)
		}
	}
	add(t, l, record(rec.Diff, 3, 150), record(rec.Key, 4, 150))
	if s := l.Segs(); len(s) != 2 || s[0].Last != 3 || s[1].From != 150 || s[1].First != 4 {
		t.Errorf("P18.2: %v", s)
	}
}

func TestAppendWithoutRoom(t *testing.T) {
	d := newDisk(t, 110)
	l := open(t, d, small)
	add(t, l, record(rec.Key, 1, 0), record(rec.Diff, 2, 0))
	before := l.Segs()
	if e := l.Append(rec.Record{Kind: rec.Diff, Seq: 3, Body: make([]byte, 100)}); e != api.ErrFull || !slices.Equal(l.Segs(), before) {
		t.Errorf("P18.2: %d, %v", e, l.Segs())
	}
	add(t, l, record(rec.Diff, 3, 0))
	before = l.Segs()
	for range 2 {
		if e := l.Append(record(rec.Key, 4, 1)); e != api.ErrFull || !slices.Equal(l.Segs(), before) || !slices.Equal(files(d), []string{"man", "s000001"}) {
			t.Errorf("P18.2: rotated without room: %d, %v, %v", e, l.Segs(), files(d))
		}
	}
	if records := all(t, l); len(records) != 3 || d.Sure("s000001") != 80 {
		t.Errorf("P18.2: %v", records)
	}
	// Room for the segment, but not for the manifest.
	d = newDisk(t, 80+10+40+5)
	l = open(t, d, small)
	add(t, l, record(rec.Key, 1, 0), record(rec.Diff, 2, 0), record(rec.Diff, 3, 0))
	if e := l.Append(record(rec.Key, 4, 1)); e != api.ErrFull || len(l.Segs()) != 1 || !slices.Equal(files(d), []string{"man", "s000001"}) {
		t.Errorf("P18.2: rotated without room for the manifest: %d, %v", e, files(d))
	}
	add(t, l, record(rec.Diff, 4, 1))
}

func TestAFileIsThereAlready(t *testing.T) {
	d := newDisk(t, 1000)
	l := open(t, d, small)
	d.Create("s000001")
	d.Append("s000001", []byte("mine"))
	if e := l.Append(record(rec.Key, 1, 0)); e != api.ErrExists || string(peek(d, "s000001")) != "mine" || len(l.Segs()) != 0 {
		t.Errorf("P18.2: %d, %q", e, peek(d, "s000001"))
	}
}

// lay puts a segment of these records on a disk, and a manifest of it.
func lay(t *testing.T, d *disk.Disk, num int, records ...rec.Record) {
	t.Helper()
	b, e := seg.Header(seg.Head{Num: num, First: records[0].Seq})
	if e != api.OK {
		t.Fatal("P16.1:", e)
	}
	for _, r := range records {
		x, _ := rec.Encode(r)
		b = append(b, x...)
	}
	write(d, seg.Name(num), b)
	nums, _ := man.Load(d)
	nums = append(nums, num)
	slices.Sort(nums)
	man.Save(d, slices.Compact(nums))
}

func write(d *disk.Disk, name string, b []byte) {
	d.Delete(name)
	d.Create(name)
	d.Append(name, b)
	d.Sync(name)
}

func TestTheLastNumber(t *testing.T) {
	d := newDisk(t, 10000)
	lay(t, d, seg.Most, record(rec.Key, 1, 0), record(rec.Diff, 2, 0), record(rec.Diff, 3, 0))
	l := open(t, d, small)
	ops := d.Ops()
	if e := l.Append(record(rec.Key, 4, 1)); e != api.ErrFull || len(l.Segs()) != 1 || d.Ops() != ops+1 {
		t.Errorf("P18.2: %d, %v, %d operations", e, l.Segs(), d.Ops()-ops)
	}
}

func TestTooManySegments(t *testing.T) {
	d := newDisk(t, api.MaxDisk)
	l := open(t, d, log.Conf{Segment: 64, Keep: api.MaxDisk, Age: 1})
	for i := range uint64(api.MaxFiles - 4) {
		add(t, l, record(rec.Key, i+1, i))
	}
	if e := l.Append(record(rec.Key, api.MaxFiles, api.MaxFiles)); e != api.ErrRange || len(l.Segs()) != api.MaxFiles-4 {
		t.Errorf("P18.2: %d, %d segments", e, len(l.Segs()))
	}
	if e := l.Append(record(rec.Key, api.MaxFiles-3, api.MaxFiles)); e != api.ErrFull || len(l.Segs()) != api.MaxFiles-4 {
		t.Errorf("P18.2: %d, %d segments", e, len(l.Segs()))
	}
}

func TestRetain(t *testing.T) {
	d := newDisk(t, 10000)
	l := open(t, d, log.Conf{Segment: 64, Keep: 120, Age: 1})
	for i := range uint64(5) {
		add(t, l, record(rec.Key, i+1, i))
	}
	ops := d.Ops()
	if n, e := l.Retain(); n != 2 || e != api.OK || d.Ops() != ops+12 || !slices.Equal(files(d), []string{"man", "s000003", "s000004", "s000005"}) {
		t.Errorf("P18.3: %d, %d, %v", n, e, files(d))
	}
	if s := l.Segs(); len(s) != 3 || s[0].Num != 3 {
		t.Errorf("P18.3: %v", s)
	}
	if nums, _ := man.Load(d); !slices.Equal(nums, []int{3, 4, 5}) {
		t.Errorf("P18.3: %v", nums)
	}
	if n, e := l.Retain(); n != 0 || e != api.OK {
		t.Errorf("P18.3: again: %d, %d", n, e)
	}
	if _, e := l.Read(2); e != api.ErrNone {
		t.Errorf("P18.3: Read of what went: %d", e)
	}
	l = open(t, d, log.Conf{Segment: 64, Keep: 0, Age: 1})
	d.Delete("s000003")
	if n, e := l.Retain(); n != 2 || e != api.OK || len(l.Segs()) != 1 || l.Segs()[0].Num != 5 {
		t.Errorf("P18.3: the active one stays: %d, %d, %v", n, e, l.Segs())
	}
	add(t, l, record(rec.Key, 6, 9))
	if s := l.Segs(); len(s) != 2 || s[1].Num != 6 {
		t.Errorf("P18.2: numbers go on: %v", s)
	}
}

func TestRetainThatFails(t *testing.T) {
	for op, want := range map[int]struct{ gone, left int }{1: {0, 3}, 5: {0, 3}, 6: {1, 2}, 7: {1, 2}, 11: {1, 2}, 12: {2, 1}, 13: {2, 1}} {
		d := newDisk(t, 10000)
		l := open(t, d, log.Conf{Segment: 64, Keep: 0, Age: 1})
		add(t, l, record(rec.Key, 1, 0), record(rec.Key, 2, 1), record(rec.Key, 3, 2))
		d.Arm(op)
		n, e := l.Retain()
		if n != want.gone || (e == api.ErrDown) != (op <= 12) || op > 12 && e != api.OK || len(l.Segs()) != want.left {
			t.Errorf("P18.3: a fall at operation %d: %d, %d, %v", op, n, e, l.Segs())
		}
		d.Crash()
		d.Reboot()
		if l := open(t, d, small); len(l.Segs()) > want.left || len(files(d)) != len(l.Segs())+1 {
			t.Errorf("P18.1: behind a fall at operation %d: %v, %v", op, l.Segs(), files(d))
		}
	}
}

func TestOpenTidies(t *testing.T) {
	d := newDisk(t, 10000)
	lay(t, d, 3, record(rec.Key, 1, 0))
	lay(t, d, 5, record(rec.Key, 2, 7), record(rec.Diff, 3, 9))
	for _, name := range []string{man.Fresh, "s000001", "s000004", "s000009", "idx", "other", "s00001", "s000000"} {
		write(d, name, []byte("old"))
	}
	ops := d.Ops()
	l := open(t, d, small)
	if d.Ops() != ops+8 || !slices.Equal(files(d), []string{"idx", "man", "other", "s000000", "s000003", "s000005", "s00001"}) {
		t.Errorf("P18.1: %d operations, %v", d.Ops()-ops, files(d))
	}
	want := []log.Seg{{Num: 3, Size: 40, First: 1, Last: 1, From: 0, To: 0}, {Num: 5, Size: 60, First: 2, Last: 3, From: 7, To: 9}}
	if !slices.Equal(l.Segs(), want) {
		t.Errorf("P18.1: %v", l.Segs())
	}
	add(t, l, record(rec.Key, 4, 200))
	if s := l.Segs(); len(s) != 3 || s[2].Num != 6 {
		t.Errorf("P18.2: %v", s)
	}
}

func TestOpenMendsTheLastOne(t *testing.T) {
	d := newDisk(t, 10000)
	lay(t, d, 1, record(rec.Key, 1, 0))
	lay(t, d, 2, record(rec.Key, 2, 7), record(rec.Diff, 3, 9))
	b := peek(d, "s000002")
	for n := 41; n < 60; n++ {
		write(d, "s000002", b[:n])
		ops := d.Ops()
		l := open(t, d, small)
		if s := l.Segs(); len(s) != 2 || s[1].Size != 40 || s[1].Last != 2 || d.Ops() != ops+6 || len(peek(d, "s000002")) != 40 || d.Sure("s000002") != 40 {
			t.Errorf("P18.1: torn at %d: %v, %d operations", n, s, d.Ops()-ops)
		}
		ops = d.Ops()
		if again := open(t, d, small); !slices.Equal(again.Segs(), l.Segs()) || d.Ops() != ops+4 {
			t.Errorf("P18.5: opened twice: %v", again.Segs())
		}
	}
}

func TestOpenRefuses(t *testing.T) {
	first := []rec.Record{record(rec.Key, 1, 5), record(rec.Diff, 2, 6)}
	good := func(t *testing.T) *disk.Disk {
		d := newDisk(t, 10000)
		lay(t, d, 1, first...)
		lay(t, d, 2, record(rec.Key, 3, 6))
		lay(t, d, 3, record(rec.Key, 4, 7))
		return d
	}
	open(t, good(t), small)
	for i, c := range []struct {
		spoil func(d *disk.Disk)
		e     api.Errno
		ops   int
	}{
		{func(d *disk.Disk) { write(d, "s000002", nil) }, api.ErrForm, 4}, {func(d *disk.Disk) { write(d, "s000002", peek(d, "s000002")[:20]) }, api.ErrForm, 4}, {func(d *disk.Disk) { write(d, "s000003", peek(d, "s000003")[:39]) }, api.ErrForm, 5}, {func(d *disk.Disk) { write(d, "s000002", peek(d, "s000001")) }, api.ErrForm, 4},
		{func(d *disk.Disk) { lay(t, d, 2, record(rec.Key, 4, 6)) }, api.ErrForm, 4}, {func(d *disk.Disk) { lay(t, d, 2, record(rec.Key, 2, 6)) }, api.ErrForm, 4}, {func(d *disk.Disk) { lay(t, d, 2, record(rec.Key, 3, 5)) }, api.ErrForm, 4}, {func(d *disk.Disk) { write(d, "s000001", append(peek(d, "s000001"), 0)) }, api.ErrForm, 3}, {func(d *disk.Disk) { write(d, "s000001", peek(d, "s000001")[:59]) }, api.ErrForm, 3},
		{func(d *disk.Disk) { d.Delete("s000002") }, api.ErrNone, 4}, {func(d *disk.Disk) { write(d, "man", []byte("TTM1")) }, api.ErrForm, 1}, {func(d *disk.Disk) { d.Crash() }, api.ErrDown, 0}, {func(d *disk.Disk) { d.Arm(2) }, api.ErrDown, 2}, {func(d *disk.Disk) { d.Arm(4) }, api.ErrDown, 4}, {func(d *disk.Disk) { write(d, "s000003", append(peek(d, "s000003"), 1)); d.Arm(7) }, api.ErrDown, 7},
		{func(d *disk.Disk) { write(d, "s000003", append(peek(d, "s000003"), 1)); d.Arm(6) }, api.ErrDown, 6}, {func(d *disk.Disk) { write(d, "s000009", nil); d.Arm(3) }, api.ErrDown, 3}, {func(d *disk.Disk) { write(d, "man.new", nil); d.Arm(3) }, api.ErrDown, 3},
	} {
		d := good(t)
		c.spoil(d)
		ops := d.Ops()
		if l, e := log.Open(d, small); l != nil || e != c.e || d.Ops() != ops+c.ops {
			t.Errorf("P18.1: case %d: %d, %d operations", i, e, d.Ops()-ops)
		}
	}
}

func TestReadAndSyncOfADiskThatIsDown(t *testing.T) {
	d := newDisk(t, 1000)
	l := open(t, d, small)
	add(t, l, record(rec.Key, 1, 0))
	if s, e := l.Read(1); e != api.OK || len(s.Parts) != 1 || s.Parts[0].At != 20 || s.Parts[0].End != 40 {
		t.Errorf("P18.3: Read: %v, %d", s, e)
	}
	for _, n := range []int{0, 2, -1, math.MaxInt} {
		if s, e := l.Read(n); e != api.ErrNone || s.Good != 0 {
			t.Errorf("P18.3: Read(%d): %d", n, e)
		}
	}
	write(d, "s000001", []byte("spoilt"))
	if s, e := l.Read(1); e != api.ErrForm || s.Good != 0 {
		t.Errorf("P18.3: Read of what is spoilt: %d", e)
	}
	d.Crash()
	before := l.Segs()
	if s, e := l.Read(1); e != api.ErrDown || s.Good != 0 || l.Sync() != api.ErrDown || l.Append(record(rec.Diff, 2, 0)) != api.ErrDown || l.Append(record(rec.Key, 2, 500)) != api.ErrDown || !slices.Equal(l.Segs(), before) {
		t.Errorf("P18.3: down: %d, %v", e, l.Segs())
	}
}

func TestAFallWithinARotation(t *testing.T) {
	for op := 1; op <= 9; op++ {
		d := newDisk(t, 1000)
		l := open(t, d, small)
		add(t, l, record(rec.Key, 1, 0), record(rec.Diff, 2, 0))
		d.Arm(op, disk.Outcome{Keep: 60}, disk.Outcome{Keep: 60})
		before := l.Segs()
		if e := l.Append(record(rec.Key, 3, 100)); e != api.ErrDown || !slices.Equal(l.Segs(), before) {
			t.Errorf("P18.2: a fall at operation %d: %d, %v", op, e, l.Segs())
		}
		d.Reboot()
		l = open(t, d, small)
		if records := all(t, l); len(records) != 2 || len(l.Segs()) != 1 || len(files(d)) != 2 {
			t.Errorf("P18.5: a fall at operation %d: %d records, %v", op, len(records), files(d))
		}
		add(t, l, record(rec.Key, 3, 100))
	}
}

// sameRun tells whether got is a run of l without a gap, up to the Seq sure or further, from the Seq kept or earlier.
func sameRun(got, l []rec.Record, kept, sure uint64) bool {
	if len(got) == 0 {
		return sure == 0
	}
	first := got[0].Seq
	if first > kept || got[len(got)-1].Seq < sure || len(got) > len(l) {
		return false
	}
	for i, r := range got {
		at := int(first) - 1 + i
		if at >= len(l) || !rec.Same(r, l[at]) {
			return false
		}
	}
	return true
}

func TestFallsAnywhere(t *testing.T) {
	r := rand.New(rand.NewSource(1))
	for range 400 {
		conf := log.Conf{Segment: 64 + r.Intn(200), Keep: r.Intn(600), Age: 1 + uint64(r.Intn(40))}
		d := newDisk(t, 800+r.Intn(800))
		l := open(t, d, conf)
		var records []rec.Record
		sure, kept, time := uint64(0), uint64(1), uint64(0)
		for range 6 {
			d.Arm(1+r.Intn(60), outcome(r), outcome(r))
			for d.Up() {
				time += uint64(r.Intn(10))
				x := rec.Record{Kind: 1 + r.Intn(2), Seq: uint64(len(records)) + 1, Time: time, Body: make([]byte, r.Intn(30))}
				r.Read(x.Body)
				segs := len(l.Segs())
				if l.Append(x) == api.OK {
					records = append(records, x)
				}
				if len(l.Segs()) > segs {
					sure = x.Seq
				}
				if r.Intn(4) == 0 && l.Sync() == api.OK {
					sure = uint64(len(records))
				}
				if r.Intn(6) == 0 {
					l.Retain()
				}
				if s := l.Segs(); len(s) > 0 {
					kept = s[0].First
				}
			}
			d.Reboot()
			l = open(t, d, conf)
			got := all(t, l)
			if !sameRun(got, records, kept, sure) {
				t.Fatalf("P18.5: %d records of %d, from %d, sure to %d", len(got), len(records), kept, sure)
			}
			again := open(t, d, conf)
			if !slices.Equal(again.Segs(), l.Segs()) || !slices.EqualFunc(all(t, again), got, rec.Same) {
				t.Fatalf("P18.5: opened twice: %v, %v", l.Segs(), again.Segs())
			}
			last, _, _ := l.Last()
			records, sure = records[:last], last
			if d.Used() > d.Room() {
				t.Fatal("P0.12: more than the room is used")
			}
		}
	}
}

func outcome(r *rand.Rand) disk.Outcome {
	junk := make([]byte, r.Intn(40))
	r.Read(junk)
	return disk.Outcome{Keep: r.Intn(80), Junk: junk}
}

func TestNothingIsShared(t *testing.T) {
	d := newDisk(t, 1000)
	l := open(t, d, small)
	x := record(rec.Key, 1, 0)
	add(t, l, x)
	x.Body[0] = 'x'
	s := l.Segs()
	s[0].Last = 99
	scan, _ := l.Read(1)
	scan.Parts[0].Body[1] = 'x'
	if seq, _, _ := l.Last(); seq != 1 || !rec.Same(all(t, l)[0], record(rec.Key, 1, 0)) {
		t.Errorf("P18.4: %d, %v", seq, all(t, l))
	}
}

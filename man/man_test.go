package man_test

import (
	"bytes"
	"math"
	"math/rand"
	"slices"
	"testing"

	"tickertape/api"
	"tickertape/disk"
	"tickertape/man"
	"tickertape/seg"
	"tickertape/wire"
)

// sealed is a manifest's bytes of these numbers, with a sum that fits.
func sealed(magic string, l ...uint64) []byte {
	b := []byte(magic)
	for _, n := range l {
		b = append(b, wire.Var(n)...)
	}
	return append(b, wire.Four(wire.Crc(b))...)
}

func rising(n int) []int {
	var l []int
	for i := range n {
		l = append(l, i+1)
	}
	return l
}

func made(t *testing.T, room int) *disk.Disk {
	t.Helper()
	d, e := disk.New(room)
	if e != api.OK {
		t.Fatal("P5.1:", e)
	}
	return d
}

func files(d *disk.Disk) []string {
	l, _ := d.List()
	return l
}

func TestEncode(t *testing.T) {
	for _, c := range []struct {
		l    []int
		want []byte
	}{
		{nil, sealed("TTM1", 0)}, {[]int{1}, sealed("TTM1", 1, 1)}, {[]int{3, 300, seg.Most}, sealed("TTM1", 3, 3, 300, seg.Most)},
	} {
		if b, e := man.Encode(c.l); !bytes.Equal(b, c.want) || e != api.OK {
			t.Errorf("P17.1: Encode(%v) is % X, %d", c.l, b, e)
		}
		if l, e := man.Decode(c.want); !slices.Equal(l, c.l) || e != api.OK {
			t.Errorf("P17.1: Decode(% X) is %v, %d", c.want, l, e)
		}
	}
	if b, e := man.Encode(rising(api.MaxFiles)); e != api.OK {
		t.Error("P17.1: as many as may be:", e)
	} else if l, e := man.Decode(b); !slices.Equal(l, rising(api.MaxFiles)) || e != api.OK {
		t.Error("P17.1: as many as may be:", l, e)
	}
	for _, l := range [][]int{{0}, {-1}, {seg.Most + 1}, {2, 1}, {1, 1}, {1, 3, 2}, {math.MinInt}, {1, math.MaxInt}, rising(api.MaxFiles + 1)} {
		if b, e := man.Encode(l); b != nil || e != api.ErrRange {
			t.Errorf("P17.1: Encode(%v) is % X, %d", l, b, e)
		}
	}
}

func TestDecodeRefuses(t *testing.T) {
	good := sealed("TTM1", 2, 1, 300)
	var many []uint64
	for i := range uint64(202) {
		many = append(many, max(i, 1))
	}
	many[0] = 201
	bad := [][]byte{nil, sealed("TTM2", 0), sealed("TTM1", 1, 0), sealed("TTM1", 2, 2, 1), sealed("TTM1", 2, 1, 1), sealed("TTM1", 1, seg.Most+1), sealed("TTM1", 1, 1<<63), sealed("TTM1", 2, 1), sealed("TTM1", 1, 1, 2), sealed("TTM1"), sealed("TTM1", 1<<63), sealed("TTM1", many...), sealed("TTM1\x81\x00", 1), sealed("TTM1", 0)[:8], append(slices.Clone(good), 0)}
	for n := range good {
		c := slices.Clone(good)
		c[n] ^= 1
		bad = append(bad, good[:n], c)
	}
	for i, b := range bad {
		if l, e := man.Decode(b); l != nil || e != api.ErrForm {
			t.Errorf("P17.1: case %d: Decode(% X) is %v, %d", i, b, l, e)
		}
	}
}

func TestLoad(t *testing.T) {
	d := made(t, 100)
	ops := d.Ops()
	if l, e := man.Load(d); l != nil || e != api.OK || d.Ops() != ops+1 {
		t.Errorf("P17.2: Load of none: %v, %d", l, e)
	}
	d.Create(man.File)
	if l, e := man.Load(d); l != nil || e != api.ErrForm {
		t.Errorf("P17.2: Load of an empty file: %v, %d", l, e)
	}
	d.Append(man.File, sealed("TTM1", 2, 7, 9))
	if l, e := man.Load(d); !slices.Equal(l, []int{7, 9}) || e != api.OK {
		t.Errorf("P17.2: Load: %v, %d", l, e)
	}
	d.Crash()
	if l, e := man.Load(d); l != nil || e != api.ErrDown {
		t.Errorf("P17.2: Load of a disk that is down: %v, %d", l, e)
	}
}

func TestSave(t *testing.T) {
	d := made(t, 100)
	if e := man.Save(d, []int{2, 1}); e != api.ErrRange || d.Ops() != 0 {
		t.Errorf("P17.2: Save of what may not be: %d, %d operations", e, d.Ops())
	}
	for i, l := range [][]int{{1}, {1, 2}, nil, {5, 9, 300}} {
		ops := d.Ops()
		if e := man.Save(d, l); e != api.OK || d.Ops() != ops+5 {
			t.Errorf("P17.2: Save %d: %d, %d operations", i, e, d.Ops()-ops)
		}
		if got, e := man.Load(d); !slices.Equal(got, l) || e != api.OK || !slices.Equal(files(d), []string{man.File}) || d.Sure(man.File) != d.Used() {
			t.Errorf("P17.2: Save %d: %v, %d, %v", i, got, e, files(d))
		}
	}
	d.Create(man.Fresh)
	d.Append(man.Fresh, []byte("old"))
	if e := man.Save(d, []int{1}); e != api.OK || !slices.Equal(files(d), []string{"man"}) {
		t.Errorf("P17.2: Save over what was fresh: %d, %v", e, files(d))
	}
	if l, e := man.Load(d); !slices.Equal(l, []int{1}) || e != api.OK || man.Fresh != "man.new" {
		t.Errorf("P17.2: Save over what was fresh: %v, %d", l, e)
	}
	if d.Crash(); man.Save(d, []int{1}) != api.ErrDown {
		t.Error("P17.2: Save on a disk that is down")
	}
}

func TestSaveWithoutRoom(t *testing.T) {
	d := made(t, 25)
	if e := man.Save(d, []int{1, 2}); e != api.OK {
		t.Fatal("P17.2:", e)
	}
	d.Create("x")
	d.Append("x", make([]byte, 10))
	ops := d.Ops()
	if e := man.Save(d, []int{1, 2, 3}); e != api.ErrFull || d.Ops() != ops+4 || !slices.Equal(files(d), []string{man.File, "x"}) {
		t.Errorf("P17.2: %d, %d operations, %v", e, d.Ops()-ops, files(d))
	}
	if l, e := man.Load(d); !slices.Equal(l, []int{1, 2}) || e != api.OK {
		t.Errorf("P17.2: what was saved: %v, %d", l, e)
	}
	for d.Create("f"+seg.Name(d.Ops())) == api.OK {
	}
	if e := man.Save(d, nil); e != api.ErrFull {
		t.Errorf("P17.2: without a file more: %d", e)
	}
}

func TestAFallWithinSave(t *testing.T) {
	r := rand.New(rand.NewSource(1))
	before, after := []int{1, 2, 3}, []int{2, 3, 400}
	for op := 1; op <= 6; op++ {
		for range 40 {
			d := made(t, 1000)
			man.Save(d, before)
			junk := make([]byte, r.Intn(20))
			r.Read(junk)
			d.Arm(op, disk.Outcome{Keep: r.Intn(20), Junk: junk})
			e := man.Save(d, after)
			if (e == api.OK) != (op > 5) || op <= 5 && e != api.ErrDown {
				t.Fatalf("P17.2: a fall at operation %d: %d", op, e)
			}
			d.Crash()
			d.Reboot()
			got, e := man.Load(d)
			if e != api.OK || !slices.Equal(got, before) && !slices.Equal(got, after) || op > 5 && !slices.Equal(got, after) {
				t.Fatalf("P17.4: a fall at operation %d: %v, %d", op, got, e)
			}
			if e := man.Save(d, []int{7}); e != api.OK || !slices.Equal(files(d), []string{man.File}) {
				t.Fatalf("P17.2: Save behind a fall: %d, %v", e, files(d))
			}
			if l, e := man.Load(d); !slices.Equal(l, []int{7}) || e != api.OK {
				t.Fatalf("P17.2: Save behind a fall: %v, %d", l, e)
			}
		}
	}
}

func TestNothingIsShared(t *testing.T) {
	d := made(t, 100)
	l := []int{1, 2, 3, 4}
	man.Save(d, l[:2])
	l[0] = 9
	got, _ := man.Load(d)
	got[0] = 7
	b, _ := man.Encode(l[1:2])
	b[0] = 'x'
	if again, _ := man.Load(d); !slices.Equal(again, []int{1, 2}) || !slices.Equal(l, []int{9, 2, 3, 4}) {
		t.Errorf("P17.3: %v, %v", again, l)
	}
}

package index_test

import (
	"bytes"
	"math"
	"math/rand"
	"slices"
	"testing"

	"tickertape/api"
	"tickertape/disk"
	"tickertape/index"
	"tickertape/log"
	"tickertape/rec"
	"tickertape/wire"
)

func newDisk(t *testing.T, room int) *disk.Disk {
	t.Helper()
	d, e := disk.New(room)
	if e != api.OK {
		t.Fatal("P5.1:", e)
	}
	return d
}

// kept is a log of three segments: keys at Seq 1, 3, 4, 6.
func kept(t *testing.T, d *disk.Disk) *log.Log {
	t.Helper()
	g, e := log.Open(d, log.Conf{Segment: 80, Keep: 10000, Age: 100})
	if e != api.OK {
		t.Fatal("P18.1:", e)
	}
	for i, x := range []struct {
		kind int
		time uint64
	}{{rec.Key, 0}, {rec.Diff, 0}, {rec.Key, 5}, {rec.Key, 5}, {rec.Diff, 7}, {rec.Key, 200}} {
		if e := g.Append(rec.Record{Kind: x.kind, Seq: uint64(i) + 1, Time: x.time, Body: []byte("0123456789")}); e != api.OK {
			t.Fatal("P18.2:", e)
		}
	}
	if len(g.Segs()) != 3 {
		t.Fatal("P18.2:", g.Segs())
	}
	return g
}

var keys = []index.Entry{{Seq: 1, Time: 0, Num: 1, At: 20}, {Seq: 3, Time: 5, Num: 1, At: 60}, {Seq: 4, Time: 5, Num: 2, At: 20}, {Seq: 6, Time: 200, Num: 3, At: 20}}

// sealed is the bytes of numbers, with a sum that fits.
func sealed(l ...uint64) []byte {
	var b []byte
	for _, n := range l {
		b = append(b, wire.Var(n)...)
	}
	return append(wire.Four(wire.Crc(b)), b...)
}

func TestEncode(t *testing.T) {
	for _, c := range []struct {
		l    []index.Entry
		want []byte
	}{
		{nil, nil}, {keys[:1], sealed(1, 0, 1, 20)}, {keys[1:3], append(sealed(3, 5, 1, 60), sealed(4, 5, 2, 20)...)}, {[]index.Entry{{Seq: math.MaxUint64, Time: 1 << 63, Num: math.MaxInt32, At: 0}, {Num: 0, At: math.MaxInt32}}, append(sealed(math.MaxUint64, 1<<63, math.MaxInt32, 0), sealed(0, 0, 0, math.MaxInt32)...)},
	} {
		if got := index.Encode(c.l); !bytes.Equal(got, c.want) {
			t.Errorf("P19.1: Encode(%v) is % X", c.l, got)
		}
		if got := index.Decode(c.want); !slices.Equal(got, c.l) {
			t.Errorf("P19.1: Decode(% X) is %v", c.want, got)
		}
	}
	if got := index.Encode([]index.Entry{{Num: -1, At: math.MinInt}}); !bytes.Equal(got, sealed(0, 0, math.MaxUint64, 1<<63)) {
		t.Errorf("P19.1: of numbers below 0: % X", got)
	}
}

func TestDecodeEndsAtWhatIsNone(t *testing.T) {
	good := index.Encode(keys[:2])
	first := len(index.Encode(keys[:1]))
	for n := range good {
		want := keys[:0]
		if n >= first {
			want = keys[:1]
		}
		if got := index.Decode(good[:n]); !slices.Equal(got, want) {
			t.Errorf("P19.1: the first %d bytes: %v", n, got)
		}
		c := slices.Clone(good)
		c[n] ^= 1
		if got := index.Decode(c); !slices.Equal(got, want) {
			t.Errorf("P19.1: byte %d turned: %v", n, got)
		}
	}
	for i, b := range [][]byte{sealed(1, 1, 1<<31, 1), sealed(1, 1, 1, 1<<31), sealed(1, 1, math.MaxUint64, 1), sealed(1, 1, 1, math.MaxUint64), sealed(1, 1, 1), {0, 0, 0, 0, 0x81, 0, 1, 1, 1}, {1, 2, 3}} {
		if got := index.Decode(append(slices.Clone(good), append(b, good...)...)); !slices.Equal(got, keys[:2]) {
			t.Errorf("P19.1: case %d: %v", i, got)
		}
	}
}

func TestBuild(t *testing.T) {
	d := newDisk(t, 10000)
	g := kept(t, d)
	ops := d.Ops()
	if l, e := index.Build(g); !slices.Equal(l, keys) || e != api.OK || d.Ops() != ops+3 {
		t.Errorf("P19.2: %v, %d, %d operations", l, e, d.Ops()-ops)
	}
	empty, _ := log.Open(newDisk(t, 0), log.Conf{Segment: 64, Age: 1})
	if l, e := index.Build(empty); len(l) != 0 || e != api.OK {
		t.Errorf("P19.2: of nothing: %v, %d", l, e)
	}
	d.Delete("s000002")
	ops = d.Ops()
	if l, e := index.Build(g); l != nil || e != api.ErrNone || d.Ops() != ops+2 {
		t.Errorf("P19.2: without a segment: %v, %d, %d operations", l, e, d.Ops()-ops)
	}
	if l, e := index.Right(g, keys); l != nil || e != api.ErrNone {
		t.Errorf("P19.2: Right: %v, %d", l, e)
	}
	d.Crash()
	if l, e := index.Build(g); l != nil || e != api.ErrDown {
		t.Errorf("P19.2: down: %v, %d", l, e)
	}
}

func TestRight(t *testing.T) {
	d := newDisk(t, 10000)
	g := kept(t, d)
	changed := func(change func(x *index.Entry)) index.Entry {
		x := keys[1]
		change(&x)
		return x
	}
	wrong := []index.Entry{changed(func(x *index.Entry) { x.Seq++ }), changed(func(x *index.Entry) { x.Time++ }), changed(func(x *index.Entry) { x.Num++ }), changed(func(x *index.Entry) { x.At++ }), {}, {Seq: 2, Time: 0, Num: 1, At: 40}}
	for i, c := range []struct{ l, want []index.Entry }{
		{nil, nil}, {keys, keys}, {[]index.Entry{keys[3], keys[0], keys[3], keys[0]}, []index.Entry{keys[0], keys[3]}}, {wrong, nil}, {append(slices.Clone(wrong), keys[1]), keys[1:2]},
	} {
		ops := d.Ops()
		if got, e := index.Right(g, c.l); !slices.Equal(got, c.want) || e != api.OK || d.Ops() != ops+3 {
			t.Errorf("P19.2: case %d: %v, %d, %d operations", i, got, e, d.Ops()-ops)
		}
	}
}

func TestFind(t *testing.T) {
	for time, want := range map[uint64]int{0: 0, 4: 0, 5: 2, 199: 2, 200: 3, math.MaxUint64: 3} {
		if got := index.Find(keys, time); got != want {
			t.Errorf("P19.2: Find(%d) is %d", time, got)
		}
	}
	if index.Find(nil, 5) != -1 || index.Find(keys[1:], 4) != -1 || index.Find(keys[3:], 199) != -1 || index.Find(keys[3:], 200) != 0 {
		t.Error("P19.2: Find of none")
	}
}

func TestSaveAndLoad(t *testing.T) {
	d := newDisk(t, 40)
	if l, e := index.Load(d); l != nil || e != api.OK || d.Ops() != 1 || index.File != "idx" {
		t.Errorf("P19.3: Load of none: %v, %d", l, e)
	}
	for _, l := range [][]index.Entry{keys[:2], nil, keys} {
		ops := d.Ops()
		if e := index.Save(d, l); e != api.OK || d.Ops() != ops+4 || d.Sure(index.File) != d.Used() {
			t.Errorf("P19.3: Save(%v): %d, %d operations", l, e, d.Ops()-ops)
		}
		if got, e := index.Load(d); !slices.Equal(got, l) || e != api.OK {
			t.Errorf("P19.3: %v comes back as %v, %d", l, got, e)
		}
	}
	if e := index.Save(d, slices.Concat(keys, keys)); e != api.ErrFull {
		t.Errorf("P19.3: Save without room: %d", e)
	}
	d.Append(index.File, []byte("junk"))
	if got, e := index.Load(d); len(got) != 0 || e != api.OK {
		t.Errorf("P19.3: Load of junk: %v, %d", got, e)
	}
	for op := 1; op <= 4; op++ {
		d.Arm(op)
		ops := d.Ops()
		if e := index.Save(d, keys); e != api.ErrDown || d.Ops() != ops+op {
			t.Errorf("P19.3: a fall at operation %d: %d", op, e)
		}
		if got, e := index.Load(d); got != nil || e != api.ErrDown {
			t.Errorf("P19.3: Load of a disk that is down: %v, %d", got, e)
		}
		d.Reboot()
	}
}

func TestWhateverTheFileHas(t *testing.T) {
	r := rand.New(rand.NewSource(1))
	d := newDisk(t, 10000)
	g := kept(t, d)
	for range 1000 {
		b := index.Encode(keys)
		for range r.Intn(4) {
			b[r.Intn(len(b))] ^= byte(1 << r.Intn(8))
		}
		b = b[:r.Intn(len(b)+1)]
		d.Delete(index.File)
		d.Create(index.File)
		d.Append(index.File, b)
		l, e := index.Load(d)
		right, e2 := index.Right(g, l)
		if e != api.OK || e2 != api.OK || len(right) > len(keys) || !slices.Equal(right, keys[:len(right)]) {
			t.Fatalf("P19.5: % X: %v, %v", b, l, right)
		}
	}
	if got := index.Decode(index.Encode(keys)); !slices.Equal(got, keys) {
		t.Errorf("P19.5: %v", got)
	}
}

func TestNothingIsShared(t *testing.T) {
	d := newDisk(t, 10000)
	g := kept(t, d)
	l := slices.Clone(keys)
	right, _ := index.Right(g, l[:2])
	right[0].Seq = 99
	_ = append(right, index.Entry{})
	built, _ := index.Build(g)
	built[0].Seq = 99
	if again, _ := index.Build(g); !slices.Equal(l, keys) || !slices.Equal(again, keys) {
		t.Errorf("P19.4: %v, %v", l, again)
	}
}

package disk_test

import (
	"bytes"
	"fmt"
	"math"
	"math/rand"
	"slices"
	"strings"
	"testing"

	"tickertape/api"
	"tickertape/disk"
)

func made(t *testing.T, room int) *disk.Disk {
	t.Helper()
	d, e := disk.New(room)
	if e != api.OK || d == nil {
		t.Fatal("P5.1: New:", e)
	}
	return d
}

// has makes a file of sure bytes, and bytes that are not.
func has(t *testing.T, d *disk.Disk, name, sure, loose string) {
	t.Helper()
	for _, e := range []api.Errno{d.Create(name), d.Append(name, []byte(sure)), d.Sync(name), d.Append(name, []byte(loose))} {
		if e != api.OK {
			t.Fatal("P5.2:", name, e)
		}
	}
}

func peek(d *disk.Disk, name string) string {
	b, ok := d.Peek(name)
	if !ok {
		return "none"
	}
	return string(b)
}

func TestNew(t *testing.T) {
	for _, room := range []int{-1, math.MinInt, api.MaxDisk + 1, math.MaxInt} {
		if d, e := disk.New(room); d != nil || e != api.ErrRange {
			t.Errorf("P5.1: New(%d): %d", room, e)
		}
	}
	for _, room := range []int{0, 1, api.MaxDisk} {
		d := made(t, room)
		if l, e := d.List(); !d.Up() || d.Room() != room || d.Used() != 0 || len(l) != 0 || e != api.OK || d.Ops() != 1 {
			t.Errorf("P5.1: New(%d): %v, %d", room, l, e)
		}
	}
}

func TestName(t *testing.T) {
	for _, s := range []string{"a", "z", "0", "9", ".", "-", "man.new", "s000001", strings.Repeat("x", 32)} {
		if !disk.Name(s) {
			t.Errorf("P5.1: Name(%q)", s)
		}
	}
	for _, s := range []string{"", "A", "a_b", "a b", "a/b", "é", "a\x00", "`", "{", ":", ",", strings.Repeat("x", 33), "\xFF"} {
		if disk.Name(s) {
			t.Errorf("P5.1: Name(%q)", s)
		}
	}
}

func TestOperations(t *testing.T) {
	d := made(t, 10)
	for i, c := range []struct {
		got, want api.Errno
	}{
		{d.Create("b"), api.OK}, {d.Create("b"), api.ErrExists}, {d.Create("B"), api.ErrRange}, {d.Create("a"), api.OK},
		{d.Append("a", []byte("1234")), api.OK}, {d.Append("a", []byte("56")), api.OK}, {d.Append("b", []byte("7890")), api.OK}, {d.Append("b", nil), api.OK},
		{d.Append("b", []byte("x")), api.ErrFull}, {d.Append("c", []byte("x")), api.ErrNone}, {d.Append("", nil), api.ErrRange},
		{d.Truncate("a", 7), api.ErrRange}, {d.Truncate("a", -1), api.ErrRange}, {d.Truncate("a", math.MinInt), api.ErrRange}, {d.Truncate("c", -1), api.ErrNone}, {d.Truncate("C", 0), api.ErrRange}, {d.Truncate("a", 6), api.OK}, {d.Truncate("a", 5), api.OK}, {d.Truncate("b", 0), api.OK}, {d.Append("b", []byte("7890")), api.OK},
		{d.Sync("a"), api.OK}, {d.Sync("c"), api.ErrNone}, {d.Sync("a b"), api.ErrRange},
		{d.Rename("c", "d"), api.ErrNone}, {d.Rename("c", "D"), api.ErrRange}, {d.Rename("A", "d"), api.ErrRange}, {d.Rename("a", "a"), api.OK},
		{d.Delete("c"), api.ErrNone}, {d.Delete("C"), api.ErrRange},
	} {
		if c.got != c.want {
			t.Errorf("P5.2: case %d: %d, want %d", i, c.got, c.want)
		}
	}
	if d.Ops() != 29 || d.Used() != 9 || peek(d, "a") != "12345" || peek(d, "b") != "7890" || peek(d, "c") != "none" {
		t.Errorf("P5.2: %d operations, %d bytes, %q, %q", d.Ops(), d.Used(), peek(d, "a"), peek(d, "b"))
	}
	if b, e := d.Read("a"); string(b) != "12345" || e != api.OK {
		t.Errorf("P5.2: Read: %q, %d", b, e)
	}
	for name, want := range map[string]api.Errno{"c": api.ErrNone, "": api.ErrRange} {
		if b, e := d.Read(name); b != nil || e != want {
			t.Errorf("P5.2: Read(%q): %q, %d", name, b, e)
		}
	}
	if e := d.Rename("a", "b"); e != api.OK || peek(d, "b") != "12345" || peek(d, "a") != "none" || d.Used() != 5 || d.Sure("b") != 5 {
		t.Errorf("P5.2: Rename: %d, %q", e, peek(d, "b"))
	}
	if e := d.Delete("b"); e != api.OK || peek(d, "b") != "none" || d.Used() != 0 || d.Sure("b") != -1 {
		t.Errorf("P5.2: Delete: %d", e)
	}
}

func TestListRisesAndFilesAreCounted(t *testing.T) {
	d := made(t, 0)
	var want []string
	for i := range api.MaxFiles {
		name := fmt.Sprint("f", (i*77)%api.MaxFiles)
		want = append(want, name)
		if e := d.Create(name); e != api.OK {
			t.Fatal("P5.2: Create:", i, e)
		}
	}
	slices.Sort(want)
	if l, e := d.List(); !slices.Equal(l, want) || e != api.OK {
		t.Errorf("P5.2: List: %v, %d", l, e)
	}
	if d.Create("g") != api.ErrFull || d.Create("f0") != api.ErrExists || d.Create("G") != api.ErrRange {
		t.Error("P5.2: a file more")
	}
	if d.Delete("f0") != api.OK || d.Create("g") != api.OK {
		t.Error("P5.2: a file in a deleted one's place")
	}
}

func TestSure(t *testing.T) {
	d := made(t, 100)
	has(t, d, "a", "123", "45")
	if d.Sure("a") != 3 || d.Sure("b") != -1 || d.Sure("") != -1 {
		t.Errorf("P5.3: Sure: %d", d.Sure("a"))
	}
	if d.Truncate("a", 4); d.Sure("a") != 3 {
		t.Errorf("P5.3: Sure behind a Truncate above: %d", d.Sure("a"))
	}
	if d.Truncate("a", 1); d.Sure("a") != 1 {
		t.Errorf("P5.3: Sure behind a Truncate below: %d", d.Sure("a"))
	}
	if d.Append("a", []byte("xy")); d.Sure("a") != 1 {
		t.Errorf("P5.3: Sure behind Append: %d", d.Sure("a"))
	}
	if d.Sync("a"); d.Sure("a") != 3 {
		t.Errorf("P5.3: Sure behind Sync: %d", d.Sure("a"))
	}
}

func TestCrash(t *testing.T) {
	for _, c := range []struct {
		sure, loose string
		o           []disk.Outcome
		want        string
	}{
		{"", "123", []disk.Outcome{{Keep: 1, Junk: []byte{'9'}}}, "19"}, {"ab", "123", nil, "ab"}, {"ab", "123", []disk.Outcome{{}}, "ab"}, {"ab", "123", []disk.Outcome{{Keep: 3}}, "ab123"},
		{"ab", "123", []disk.Outcome{{Keep: 9, Junk: []byte("x")}}, "ab123"}, {"ab", "123", []disk.Outcome{{Keep: math.MaxInt, Junk: []byte("x")}}, "ab123"}, {"ab", "123", []disk.Outcome{{Keep: -1, Junk: []byte("wxyz")}}, "abwxy"},
		{"ab", "123", []disk.Outcome{{Keep: math.MinInt}}, "ab"}, {"ab", "123", []disk.Outcome{{Keep: 1, Junk: []byte("xyz")}}, "ab1xy"}, {"ab", "", []disk.Outcome{{Keep: 1, Junk: []byte("xyz")}}, "ab"},
	} {
		d := made(t, 100)
		has(t, d, "a", c.sure, c.loose)
		ops := d.Ops()
		if !d.Crash(c.o...) || d.Up() || peek(d, "a") != c.want || d.Sure("a") != len(c.want) || d.Used() != len(c.want) || d.Ops() != ops {
			t.Errorf("P5.3: %v: %q, %d sure", c, peek(d, "a"), d.Sure("a"))
		}
	}
}

func TestOutcomesGoByRisingName(t *testing.T) {
	d := made(t, 100)
	for _, name := range []string{"d", "b", "a", "e"} {
		has(t, d, name, name, "123")
	}
	has(t, d, "c", "c", "")
	d.Crash(disk.Outcome{Keep: 1}, disk.Outcome{Keep: 2}, disk.Outcome{Junk: []byte("x")})
	if peek(d, "a") != "a1" || peek(d, "b") != "b12" || peek(d, "c") != "c" || peek(d, "d") != "dx" || peek(d, "e") != "e" {
		t.Errorf("P5.3: %q, %q, %q, %q, %q", peek(d, "a"), peek(d, "b"), peek(d, "c"), peek(d, "d"), peek(d, "e"))
	}
}

func TestDown(t *testing.T) {
	d := made(t, 100)
	has(t, d, "a", "12", "3")
	if d.Reboot() || !d.Up() {
		t.Error("P5.3: Reboot of one that is up")
	}
	d.Crash()
	ops := d.Ops()
	b, e1 := d.Read("a")
	l, e2 := d.List()
	for i, e := range []api.Errno{d.Create("b"), d.Append("a", nil), e1, d.Truncate("a", -1), d.Sync("a"), d.Rename("A", "b"), d.Delete("c"), e2} {
		if e != api.ErrDown {
			t.Errorf("P5.2: case %d of a disk that is down: %d", i, e)
		}
	}
	if b != nil || l != nil || d.Ops() != ops || peek(d, "a") != "12" || d.Crash() || d.Up() {
		t.Errorf("P5.3: down: %v, %v, %d operations, %q", b, l, d.Ops(), peek(d, "a"))
	}
	if !d.Reboot() || !d.Up() || d.Reboot() || d.Append("a", []byte("4")) != api.OK || peek(d, "a") != "124" {
		t.Error("P5.3: Reboot")
	}
}

func TestArm(t *testing.T) {
	d := made(t, 100)
	has(t, d, "a", "12", "345")
	if d.Arm(0) || d.Arm(-1) || d.Arm(math.MinInt) || !d.Arm(1, disk.Outcome{Keep: 2}) || !d.Arm(3, disk.Outcome{Keep: 1, Junk: []byte("x")}) || d.Arm(0) {
		t.Error("P5.3: Arm")
	}
	ops := d.Ops()
	if d.Create("b") != api.OK || d.Append("A", nil) != api.ErrRange || d.Sync("a") != api.ErrDown || d.Up() || d.Ops() != ops+3 {
		t.Errorf("P5.3: the third operation: up %v, %d operations", d.Up(), d.Ops()-ops)
	}
	if peek(d, "a") != "123x" || peek(d, "b") != "" || d.Sure("a") != 4 {
		t.Errorf("P5.3: behind it: %q", peek(d, "a"))
	}
	if !d.Arm(2) || !d.Reboot() || d.Sync("a") != api.OK || d.Sync("a") != api.ErrDown {
		t.Error("P5.3: an Arm of one that is down counts from the Reboot on")
	}
	d.Reboot()
	d.Arm(1)
	d.Crash()
	d.Reboot()
	if d.Sync("a") != api.OK || !d.Arm(math.MaxInt) || d.Sync("a") != api.OK {
		t.Error("P5.3: an Arm counts behind a fall")
	}
	for i, op := range []func() api.Errno{
		func() api.Errno { return d.Create("c") }, func() api.Errno { return d.Append("a", []byte("z")) }, func() api.Errno { _, e := d.Read("a"); return e }, func() api.Errno { return d.Truncate("a", 0) },
		func() api.Errno { return d.Rename("a", "c") }, func() api.Errno { return d.Delete("a") }, func() api.Errno { _, e := d.List(); return e }, func() api.Errno { return d.Create("A") },
	} {
		d.Arm(1)
		if op() != api.ErrDown || d.Up() || peek(d, "a") != "123x" || peek(d, "c") != "none" {
			t.Errorf("P5.2: operation %d: up %v, %q", i, d.Up(), peek(d, "a"))
		}
		d.Reboot()
	}
}

func TestWhatWasSyncedStays(t *testing.T) {
	r := rand.New(rand.NewSource(1))
	for range 300 {
		d := made(t, 40)
		sure := map[string]string{}
		for range 40 {
			name := string(rune('a' + r.Intn(3)))
			switch r.Intn(5) {
			case 0:
				d.Create(name)
			case 1, 2:
				d.Append(name, bytes.Repeat([]byte{byte('0' + r.Intn(10))}, r.Intn(12)))
			case 3:
				if d.Sync(name) == api.OK {
					sure[name] = peek(d, name)
				}
			case 4:
				d.Crash(disk.Outcome{Keep: r.Intn(9) - 2, Junk: []byte("xyz")}, disk.Outcome{Keep: r.Intn(5)})
				d.Reboot()
			}
			if d.Used() > 40 {
				t.Fatal("P5.5: more than the room is used:", d.Used())
			}
			for name, want := range sure {
				if !strings.HasPrefix(peek(d, name), want) {
					t.Fatalf("P5.5: %s is %q, %q was synced", name, peek(d, name), want)
				}
			}
		}
	}
}

func TestNothingIsShared(t *testing.T) {
	d := made(t, 100)
	d.Create("a")
	b := []byte("123456")
	d.Append("a", b[:3])
	b[0], b[3] = 'x', 'y'
	first, _ := d.Read("a")
	_ = append(first, 'q')
	first[1] = 'x'
	second, _ := d.Peek("a")
	_ = append(second, 'r')
	second[2] = 'x'
	d.Append("a", []byte("4"))
	if peek(d, "a") != "1234" || string(b) != "x23y56" {
		t.Errorf("P5.4: %q, %q", peek(d, "a"), b)
	}
	l := []disk.Outcome{{Keep: 1, Junk: []byte("jk")}, {}}
	d.Arm(1, l...)
	l[0].Keep, l[0].Junk[0] = 4, 'x'
	d.Sync("a")
	if peek(d, "a") != "1jk" {
		t.Errorf("P5.4: behind a fall %q", peek(d, "a"))
	}
	names, _ := d.List()
	if d.Reboot(); len(names) > 0 {
		t.Error("P0.3: List beside an error")
	}
	names, _ = d.List()
	names[0] = "z"
	if again, _ := d.List(); !slices.Equal(again, []string{"a"}) {
		t.Errorf("P5.4: List is %v", again)
	}
	junk := []byte("123")
	d.Append("a", []byte("vwxyz"))
	d.Crash(disk.Outcome{Keep: 0, Junk: junk})
	junk[0] = 'q'
	d.Reboot()
	if d.Append("a", []byte("!")); peek(d, "a") != "1jk123!" || string(junk) != "q23" {
		t.Errorf("P5.4: %q, %q", peek(d, "a"), junk)
	}
}

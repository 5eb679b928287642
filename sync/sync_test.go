package sync_test

import (
	"bytes"
	"math"
	"math/rand"
	"slices"
	"testing"

	"tickertape/api"
	"tickertape/cell"
	"tickertape/diff"
	"tickertape/key"
	"tickertape/screen"
	"tickertape/sync"
	"tickertape/wire"
)

// of is a screen of one row.
func of(line string) screen.Screen {
	s := screen.Screen{Rows: 1, Cols: len(line)}
	for i := range len(line) {
		s.Cells = append(s.Cells, cell.Cell{Rune: rune(line[i])})
	}
	return s
}

func show(t *testing.T, s *sync.Sender, mode int, pos uint64, line string) {
	t.Helper()
	if e := s.Show(mode, pos, of(line)); e != api.OK {
		t.Fatal("P28.2: Show:", e)
	}
}

func text(s screen.Screen) []byte {
	b, _ := key.Encode(s)
	return b
}

func change(a, b string) []byte {
	d, _ := diff.Make(of(a), of(b))
	return d
}

func sameState(a, b sync.State) bool {
	return a.Num == b.Num && a.Mode == b.Mode && a.Pos == b.Pos && screen.Same(a.Screen, b.Screen)
}

func sameUpdate(a, b sync.Update) bool {
	return a.Num == b.Num && a.Base == b.Base && a.Ack == b.Ack && a.Mode == b.Mode && a.Pos == b.Pos && bytes.Equal(a.Body, b.Body)
}

func nums(l ...uint64) []byte {
	var b []byte
	for _, n := range l {
		b = append(b, wire.Var(n)...)
	}
	return b
}

func TestEncodeUpdate(t *testing.T) {
	for i, c := range []struct {
		u    sync.Update
		want []byte
	}{
		{sync.Update{Num: 1}, nums(1, 0, 0, 0, 0)}, {sync.Update{Num: 300, Base: 299, Ack: 7, Mode: 2, Pos: 5, Body: []byte("ab")}, append(nums(300, 299, 7, 2, 5), "ab"...)},
		{sync.Update{Num: api.MaxCount, Base: api.MaxCount - 1, Ack: api.MaxCount, Mode: 1, Pos: api.MaxTick, Body: make([]byte, api.MaxBody)}, append(nums(api.MaxCount, api.MaxCount-1, api.MaxCount, 1, api.MaxTick), make([]byte, api.MaxBody)...)},
	} {
		if b, e := sync.EncodeUpdate(c.u); !bytes.Equal(b, c.want) || e != api.OK {
			t.Errorf("P28.1: case %d: %d bytes, %d", i, len(b), e)
		}
		if u, e := sync.DecodeUpdate(c.want); !sameUpdate(u, c.u) || e != api.OK {
			t.Errorf("P28.1: case %d: %d", i, e)
		}
	}
	for i, u := range []sync.Update{{}, {Num: 0, Base: 0}, {Num: api.MaxCount + 1}, {Num: 1, Base: 1}, {Num: 1, Base: 2}, {Num: 1, Base: math.MaxUint64}, {Num: 1, Ack: api.MaxCount + 1}, {Num: 1, Mode: -1}, {Num: 1, Mode: 3}, {Num: 1, Pos: api.MaxTick + 1}, {Num: 1, Body: make([]byte, api.MaxBody+1)}} {
		if b, e := sync.EncodeUpdate(u); b != nil || e != api.ErrRange {
			t.Errorf("P28.1: bad case %d: %d", i, e)
		}
		if ok, e := sync.NewReceiver().Take(u); ok || e != api.ErrForm {
			t.Errorf("P28.3: bad case %d: %v, %d", i, ok, e)
		}
	}
	for i, b := range [][]byte{nil, nums(1, 0, 0, 0), nums(0, 0, 0, 0, 0), nums(api.MaxCount+1, 0, 0, 0, 0), nums(1, 1, 0, 0, 0), nums(1, 2, 0, 0, 0), nums(1, 0, api.MaxCount+1, 0, 0), nums(1, 0, 0, 3, 0), nums(1, 0, 0, math.MaxUint64, 0), nums(1, 0, 0, 0, api.MaxTick+1), {0x81, 0, 0, 0, 0, 0}, {1, 0, 0, 0, 0x80}, append(nums(1, 0, 0, 0, 0), make([]byte, api.MaxBody+1)...)} {
		if u, e := sync.DecodeUpdate(b); !sameUpdate(u, sync.Update{}) || e != api.ErrForm {
			t.Errorf("P28.1: bytes %d: %d", i, e)
		}
	}
}

func TestEncodeReport(t *testing.T) {
	same := func(a, b sync.Report) bool {
		return a.Have == b.Have && a.Num == b.Num && bytes.Equal(a.Command, b.Command)
	}
	for i, c := range []struct {
		r    sync.Report
		want []byte
	}{
		{sync.Report{}, nums(0, 0)}, {sync.Report{Have: 300, Num: 1, Command: []byte("123456789")}, append(nums(300, 1), "123456789"...)}, {sync.Report{Have: api.MaxCount, Num: api.MaxCount, Command: []byte("123456789")}, append(nums(api.MaxCount, api.MaxCount), "123456789"...)},
	} {
		if b, e := sync.EncodeReport(c.r); !bytes.Equal(b, c.want) || e != api.OK {
			t.Errorf("P28.1: case %d: % X, %d", i, b, e)
		}
		if r, e := sync.DecodeReport(c.want); !same(r, c.r) || e != api.OK {
			t.Errorf("P28.1: case %d: %v, %d", i, r, e)
		}
	}
	for i, r := range []sync.Report{{Have: api.MaxCount + 1}, {Num: 1}, {Num: api.MaxCount + 1, Command: []byte("123456789")}, {Command: []byte("123456789")}, {Num: 1, Command: []byte("12345678")}, {Num: 1, Command: []byte("1234567890")}, {Command: []byte("1")}} {
		if b, e := sync.EncodeReport(r); b != nil || e != api.ErrRange {
			t.Errorf("P28.1: bad case %d: % X, %d", i, b, e)
		}
	}
	for i, b := range [][]byte{nil, nums(1), nums(1, 1), append(nums(0, 0), "123456789"...), append(nums(0, 1), "12345678"...), append(nums(0, 1), "1234567890"...), nums(api.MaxCount+1, 0), append(nums(0, api.MaxCount+1), "123456789"...), {0x81, 0, 0}, nums(0, 0, 0)} {
		if r, e := sync.DecodeReport(b); !same(r, sync.Report{}) || e != api.ErrForm {
			t.Errorf("P28.1: bytes %d: %v, %d", i, r, e)
		}
	}
}

func TestShow(t *testing.T) {
	s := sync.NewSender(0)
	bad := of("a")
	bad.Row = 1
	for i, e := range []api.Errno{s.Show(-1, 0, of("a")), s.Show(3, 0, of("a")), s.Show(0, api.MaxTick+1, of("a")), s.Show(0, 0, bad), s.Show(0, 0, screen.Screen{})} {
		if e != api.ErrRange {
			t.Errorf("P28.2: case %d: %d", i, e)
		}
	}
	if _, ok := s.Update(0); ok || !sameState(s.Last(), sync.State{}) || s.Base() != 0 || s.Has(0) || s.Has(1) || s.Again() != api.ErrNone {
		t.Error("P28.2: with nothing shown")
	}
	for _, c := range []struct {
		mode int
		pos  uint64
		line string
		num  uint64
	}{{0, 5, "a", 1}, {0, 5, "a", 1}, {1, 5, "a", 2}, {1, 6, "a", 3}, {1, 6, "b", 4}, {1, 6, "b", 4}, {0, 5, "a", 5}, {2, api.MaxTick, "ab", 6}} {
		show(t, s, c.mode, c.pos, c.line)
		if want := (sync.State{Num: c.num, Mode: c.mode, Pos: c.pos, Screen: of(c.line)}); !sameState(s.Last(), want) {
			t.Errorf("P28.2: %v: %v", c, s.Last())
		}
	}
	if e := s.Again(); e != api.OK || !sameState(s.Last(), sync.State{Num: 7, Mode: 2, Pos: api.MaxTick, Screen: of("ab")}) {
		t.Errorf("P28.2: Again: %d, %v", e, s.Last())
	}
}

func TestTheLastNum(t *testing.T) {
	s := sync.NewSender(api.MaxCount - 1)
	show(t, s, 0, 0, "a")
	if s.Last().Num != api.MaxCount || s.Show(0, 0, of("b")) != api.ErrCounter || s.Again() != api.ErrCounter || s.Show(9, 0, of("b")) != api.ErrRange || s.Show(0, 0, of("a")) != api.OK {
		t.Errorf("P28.2: %v", s.Last())
	}
	if !sameState(s.Last(), sync.State{Num: api.MaxCount, Screen: of("a")}) {
		t.Errorf("P28.2: %v", s.Last())
	}
	s = sync.NewSender(api.MaxCount)
	if e := s.Show(0, 0, of("a")); e != api.ErrCounter || !sameState(s.Last(), sync.State{}) || s.Again() != api.ErrNone {
		t.Errorf("P28.2: %d, %v", e, s.Last())
	}
}

func TestHasAndUpdate(t *testing.T) {
	s := sync.NewSender(10)
	show(t, s, 0, 1, "aaa")
	want := sync.Update{Num: 11, Ack: 5, Pos: 1, Body: text(of("aaa"))}
	for range 2 {
		if u, ok := s.Update(5); !ok || !sameUpdate(u, want) {
			t.Errorf("P28.2: without a base: %v", u)
		}
	}
	if s.Has(0) || s.Has(12) || s.Has(math.MaxUint64) || s.Base() != 0 {
		t.Error("P28.2: Has of what is none")
	}
	if !s.Has(11) || s.Has(11) || s.Base() != 11 {
		t.Errorf("P28.2: Has: base %d", s.Base())
	}
	if u, ok := s.Update(5); ok || !sameUpdate(u, sync.Update{}) {
		t.Errorf("P28.2: nothing is new: %v", u)
	}
	show(t, s, 1, 2, "aba")
	show(t, s, 2, 3, "abb")
	if u, ok := s.Update(6); !ok || !sameUpdate(u, sync.Update{Num: 13, Base: 11, Ack: 6, Mode: 2, Pos: 3, Body: change("aaa", "abb")}) {
		t.Errorf("P28.2: from the base: %v", u)
	}
	if !s.Has(12) || s.Base() != 12 || s.Has(11) || s.Base() != 12 {
		t.Errorf("P28.2: base %d", s.Base())
	}
	if u, ok := s.Update(6); !ok || !sameUpdate(u, sync.Update{Num: 13, Base: 12, Ack: 6, Mode: 2, Pos: 3, Body: change("aba", "abb")}) {
		t.Errorf("P28.2: from the next base: %v", u)
	}
	s = sync.NewSender(10)
	show(t, s, 0, 0, "a")
	show(t, s, 0, 0, "b")
	if !s.Has(5) || s.Base() != 0 || s.Has(5) || s.Has(4) {
		t.Errorf("P28.2: Has of a state that never was: base %d", s.Base())
	}
	if u, ok := s.Update(0); !ok || u.Base != 0 || !bytes.Equal(u.Body, text(of("b"))) {
		t.Errorf("P28.2: behind it: %v", u)
	}
}

func TestMostStatesAreHeld(t *testing.T) {
	line := func(i int) string { return string(rune('a'+i%26)) + string(rune('a'+i/26)) }
	s := sync.NewSender(0)
	for i := range sync.Most + 3 {
		show(t, s, 0, 0, line(i))
	}
	// 1 to 3 are held no more, 4 is the eldest.
	if !s.Has(3) || s.Base() != 0 {
		t.Errorf("P28.2: base %d", s.Base())
	}
	if u, ok := s.Update(0); !ok || u.Base != 0 || u.Num != sync.Most+3 {
		t.Errorf("P28.2: %v", u)
	}
	if !s.Has(4) || s.Base() != 4 {
		t.Errorf("P28.2: base %d", s.Base())
	}
	for i := range 100 {
		show(t, s, 0, 0, line(i))
	}
	if u, ok := s.Update(0); !ok || u.Base != 4 || s.Base() != 4 || u.Num != sync.Most+103 {
		t.Errorf("P28.2: the base stays: %v", u)
	}
	// Beside the base 31 are held: from 105 on.
	if !s.Has(104) || s.Base() != 0 {
		t.Errorf("P28.2: base %d", s.Base())
	}
	if !s.Has(105) || s.Base() != 105 {
		t.Errorf("P28.2: base %d", s.Base())
	}
	if sync.Most != 32 {
		t.Error("P28.2: Most")
	}
}

func TestTake(t *testing.T) {
	r := sync.NewReceiver()
	if !sameState(r.Shown(), sync.State{}) || r.Held() != 0 {
		t.Errorf("P28.3: at first: %v, %d", r.Shown(), r.Held())
	}
	at := sync.State{}
	for i, c := range []struct {
		u    sync.Update
		ok   bool
		e    api.Errno
		line string
		held int
	}{
		{sync.Update{Num: 3, Base: 2, Body: change("a", "b")}, false, api.ErrNone, "", 0}, {sync.Update{Num: 3, Body: []byte("junk")}, false, api.ErrForm, "", 0}, {sync.Update{Num: 3, Mode: 1, Pos: 7, Body: text(of("aaa"))}, true, api.OK, "aaa", 1}, {sync.Update{Num: 3, Mode: 2, Pos: 7, Body: text(of("bbb"))}, false, api.OK, "", 1}, {sync.Update{Num: 2, Body: text(of("bbb"))}, false, api.OK, "", 1}, {sync.Update{Num: 2, Body: []byte("junk")}, false, api.OK, "", 1},
		{sync.Update{Num: 5, Base: 3, Mode: 2, Pos: 8, Body: change("aaa", "aba")}, true, api.OK, "aba", 2}, {sync.Update{Num: 6, Base: 4, Body: change("aaa", "aba")}, false, api.ErrNone, "", 2}, {sync.Update{Num: 6, Base: 3, Body: []byte("junk")}, false, api.ErrForm, "", 2}, {sync.Update{Num: 6, Base: 3, Body: change("aaa", "caa")}, true, api.OK, "caa", 3}, {sync.Update{Num: 7, Base: 5, Body: change("aba", "abc")}, true, api.OK, "abc", 3}, {sync.Update{Num: 8, Base: 3, Body: change("aaa", "abc")}, false, api.ErrNone, "", 3},
		{sync.Update{Num: 9, Body: text(of("zz"))}, true, api.OK, "zz", 4}, {sync.Update{Num: api.MaxCount, Base: 9, Pos: api.MaxTick, Body: change("zz", "zzz")}, true, api.OK, "zzz", 2},
	} {
		ok, e := r.Take(c.u)
		if ok {
			at = sync.State{Num: c.u.Num, Mode: c.u.Mode, Pos: c.u.Pos, Screen: of(c.line)}
		}
		if ok != c.ok || e != c.e || r.Held() != c.held || !sameState(r.Shown(), at) {
			t.Errorf("P28.3: case %d: %v, %d; %d held, shown %v", i, ok, e, r.Held(), r.Shown())
		}
	}
}

func TestAReceiverHoldsMostStates(t *testing.T) {
	r := sync.NewReceiver()
	for i := range uint64(40) {
		if ok, e := r.Take(sync.Update{Num: i + 1, Body: text(of("a"))}); !ok || e != api.OK || r.Held() != int(min(i+1, sync.Most)) {
			t.Errorf("P28.3: %v, %d, %d held", ok, e, r.Held())
		}
	}
	if _, e := r.Take(sync.Update{Num: 41, Base: 8, Body: change("a", "b")}); e != api.ErrNone {
		t.Errorf("P28.3: the eldest is held: %d", e)
	}
	if ok, e := r.Take(sync.Update{Num: 41, Base: 9, Body: change("a", "b")}); !ok || e != api.OK || r.Held() != sync.Most {
		t.Errorf("P28.3: %v, %d, %d held", ok, e, r.Held())
	}
}

func TestWhatIsShownWasShown(t *testing.T) {
	r := rand.New(rand.NewSource(1))
	for range 100 {
		s, v := sync.NewSender(uint64(r.Intn(5))), sync.NewReceiver()
		states := map[uint64]sync.State{}
		var flying []sync.Update
		before := uint64(0)
		for range 300 {
			switch r.Intn(5) {
			case 0, 1:
				line := []string{"aa", "ab", "b", "cc", "dd"}[r.Intn(5)]
				show(t, s, r.Intn(3), uint64(r.Intn(3)), line)
				states[s.Last().Num] = s.Last()
			case 2:
				if u, ok := s.Update(uint64(r.Intn(9))); ok {
					flying = append(flying, u)
				}
			case 3:
				if len(flying) > 0 {
					v.Take(flying[r.Intn(len(flying))])
				}
			case 4:
				s.Has(v.Shown().Num)
			}
			x := v.Shown()
			if x.Num < before || x.Num > 0 && !sameState(x, states[x.Num]) {
				t.Fatalf("P28.5: shown is %v, the sender showed %v", x, states[x.Num])
			}
			before = x.Num
		}
		if _, e := v.Take(flying[0]); e != api.OK && e != api.ErrNone {
			t.Fatalf("P28.3: %d", e)
		}
		if u, ok := s.Update(0); ok {
			if _, e := v.Take(u); e != api.OK || !sameState(v.Shown(), s.Last()) {
				t.Fatalf("P28.5: the newest does not bring it over: %d", e)
			}
		}
	}
}

func TestNothingIsShared(t *testing.T) {
	s, r := sync.NewSender(0), sync.NewReceiver()
	x := of("abc")
	s.Show(0, 0, x)
	x.Cells[0].Rune = 'x'
	last := s.Last()
	last.Screen.Cells[1].Rune = 'x'
	s.Again()
	last = s.Last()
	last.Screen.Cells[1].Rune = 'y'
	u, _ := s.Update(0)
	if !bytes.Equal(u.Body, text(of("abc"))) {
		t.Errorf("P28.4: % X", u.Body)
	}
	body := slices.Clone(u.Body)
	u.Body = append(u.Body, "behind"...)[:len(body)]
	if ok, e := r.Take(u); !ok || e != api.OK {
		t.Errorf("P28.4: %d", e)
	}
	u.Body[len(body)-5]++
	shown := r.Shown()
	shown.Screen.Cells[0].Rune = 'z'
	if !sameState(r.Shown(), sync.State{Num: 2, Screen: of("abc")}) {
		t.Errorf("P28.4: %v", r.Shown())
	}
	b, _ := sync.EncodeUpdate(u)
	in := slices.Clone(b)
	got, _ := sync.DecodeUpdate(in)
	in[len(in)-1]++
	if again, _ := sync.EncodeUpdate(got); !bytes.Equal(again, b) {
		t.Error("P28.4: an Update shares its bytes")
	}
}

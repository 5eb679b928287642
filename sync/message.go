package sync

import (
	"bytes"

	"tickertape/api"
	"tickertape/wire"
)

const (
	mostMode   = 2
	commandLen = 9
)

// Update tells a viewer the state Num, from the state Base that it has (0 is none).
type Update struct {
	Num, Base, Ack uint64
	Mode           int
	Pos            uint64
	Body           []byte
}

// Report tells the server which state a viewer shows, and what it asks.
type Report struct {
	Have, Num uint64
	Command   []byte
}

// fault is what gives up a reading; the Decodes catch it.
type fault struct{}

func need(ok bool) {
	if !ok {
		panic(fault{})
	}
}

// reading tells whether read came to its end without a fault.
func reading(read func()) (ok bool) {
	defer func() {
		if given := recover(); given != nil {
			if _, own := given.(fault); !own {
				panic(given)
			}
			ok = false
		}
	}()
	read()
	return true
}

func mayUpdate(u Update) bool {
	return u.Num >= 1 && u.Num <= api.MaxCount && u.Base < u.Num && u.Ack <= api.MaxCount &&
		mayPlace(u.Mode, u.Pos) && len(u.Body) <= api.MaxBody
}

func mayPlace(mode int, pos uint64) bool {
	return mode >= 0 && mode <= mostMode && pos <= api.MaxTick
}

// EncodeUpdate is the bytes of u.
func EncodeUpdate(u Update) ([]byte, api.Errno) {
	if !mayUpdate(u) {
		return nil, api.ErrRange
	}
	var b []byte
	for _, n := range [...]uint64{u.Num, u.Base, u.Ack, uint64(u.Mode), u.Pos} {
		b = append(b, wire.Var(n)...)
	}
	return append(b, u.Body...), api.OK
}

// DecodeUpdate is the Update of which b is the bytes.
func DecodeUpdate(b []byte) (Update, api.Errno) {
	u := Update{}
	ok := reading(func() {
		r := wire.NewReader(b)
		u.Num, u.Base, u.Ack = r.Num(api.MaxCount), r.Num(api.MaxCount), r.Num(api.MaxCount)
		u.Mode, u.Pos = int(r.Num(mostMode)), r.Num(api.MaxTick)
		u.Body = r.Raw(r.Left())
		need(r.Err() == api.OK && mayUpdate(u))
	})
	if !ok {
		return Update{}, api.ErrForm
	}
	return u, api.OK
}

func mayReport(r Report) bool {
	if r.Have > api.MaxCount || r.Num > api.MaxCount {
		return false
	}
	if r.Num == 0 {
		return len(r.Command) == 0
	}
	return len(r.Command) == commandLen
}

// EncodeReport is the bytes of r.
func EncodeReport(r Report) ([]byte, api.Errno) {
	if !mayReport(r) {
		return nil, api.ErrRange
	}
	return bytes.Join([][]byte{wire.Var(r.Have), wire.Var(r.Num), r.Command}, nil), api.OK
}

// DecodeReport is the Report of which b is the bytes.
func DecodeReport(b []byte) (Report, api.Errno) {
	report := Report{}
	ok := reading(func() {
		r := wire.NewReader(b)
		report.Have, report.Num = r.Num(api.MaxCount), r.Num(api.MaxCount)
		report.Command = r.Raw(r.Left())
		need(r.Err() == api.OK && mayReport(report))
	})
	if !ok {
		return Report{}, api.ErrForm
	}
	return report, api.OK
}

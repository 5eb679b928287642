package world

import (
	"bytes"
	"slices"

	"tickertape/api"
	"tickertape/server"
)

// stranger is the address that forged datagrams come from.
const stranger = 99

// net is what flies up and down, in the order in which it set out.
type net struct {
	up, down []server.Datagram
}

// way is what flies the way that n tells: up, if it is even.
func (f *net) way(n int) *[]server.Datagram {
	if n%2 == 0 {
		return &f.up
	}
	return &f.down
}

// has tells whether there is a datagram n.
func (f *net) has(n int) bool {
	return n >= 0 && n/2 < len(*f.way(n))
}

// take takes datagram n out of what flies.
func (f *net) take(n int) server.Datagram {
	l := f.way(n)
	d := (*l)[n/2]
	*l = slices.Delete(*l, n/2, n/2+1)
	return d
}

// Flying is how many fly.
func (f *net) Flying(up bool) int {
	if up {
		return len(f.up)
	}
	return len(f.down)
}

// deliver lets datagram n arrive.
func (w *World) deliver(n int) api.Errno {
	if !w.has(n) {
		return api.ErrNone
	}
	d := w.take(n)
	if n%2 == 0 {
		if w.server == nil {
			return api.ErrDown
		}
		return w.server.Take(d.Viewer, d.Address, d.Bytes)
	}
	x := w.end(d.Viewer)
	if x == nil {
		return api.ErrNone
	}
	return x.Take(d.Bytes)
}

// lose takes datagram n out of what flies, or lets it fly twice.
func (w *World) lose(n int, double bool) api.Errno {
	if !w.has(n) {
		return api.ErrNone
	}
	if !double {
		w.take(n)
		return api.OK
	}
	l := w.way(n)
	*l = append(*l, (*l)[n/2])
	return api.OK
}

// forge lets bytes fly that nobody has sent.
func (w *World) forge(e Event) api.Errno {
	if e.N < 0 || w.end(e.Viewer) == nil {
		return api.ErrRange
	}
	l := w.way(e.N)
	*l = append(*l, server.Datagram{Viewer: e.Viewer, Address: stranger, Bytes: bytes.Clone(e.Bytes)})
	return api.OK
}

// move gives a viewer another address.
func (w *World) move(e Event) api.Errno {
	x := w.end(e.Viewer)
	if e.N < 0 || x == nil {
		return api.ErrRange
	}
	x.address = e.N
	return api.OK
}

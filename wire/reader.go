package wire

import "tickertape/api"

// Reader reads numbers and bytes from the front, up to the first that can't be read.
type Reader struct {
	b   []byte
	at  int
	err api.Errno
}

// fault is what gives up a reading; each of the Reader's calls catches it.
type fault struct {
	why api.Errno
}

// NewReader is a Reader of what b is now.
func NewReader(b []byte) *Reader {
	return &Reader{b: append([]byte(nil), b...)}
}

// Num is the next number, if it is not above most.
func (r *Reader) Num(most uint64) uint64 {
	n := uint64(0)
	r.reading(func() { n = r.num(most) })
	return n
}

// Raw is the next n bytes.
func (r *Reader) Raw(n int) []byte {
	var b []byte
	r.reading(func() { b = r.raw(n) })
	return b
}

// Text is the next bytes, as many as the number ahead of them tells.
func (r *Reader) Text(most int) string {
	s := ""
	r.reading(func() { s = r.text(most) })
	return s
}

// Left is how many bytes are left.
func (r *Reader) Left() int {
	return len(r.b) - r.at
}

// Err is why it failed.
func (r *Reader) Err() api.Errno {
	return r.err
}

// End is why it failed, or whether bytes are left.
func (r *Reader) End() api.Errno {
	if r.err == api.OK && r.Left() > 0 {
		return api.ErrLong
	}
	return r.err
}

// reading does one reading; a fault in it takes back what was read, and lets the Reader fail for good.
func (r *Reader) reading(read func()) {
	if r.err != api.OK {
		return
	}
	from := r.at
	defer func() {
		if given := recover(); given != nil {
			f, own := given.(fault)
			if !own {
				panic(given)
			}
			r.at, r.err = from, f.why
		}
	}()
	read()
}

func (r *Reader) num(most uint64) uint64 {
	n := r.next()
	if n > most {
		panic(fault{api.ErrRange})
	}
	return n
}

func (r *Reader) next() uint64 {
	n, end, e := Get(r.b, r.at)
	if e != api.OK {
		panic(fault{e})
	}
	r.at = end
	return n
}

func (r *Reader) raw(n int) []byte {
	if n < 0 {
		panic(fault{api.ErrRange})
	}
	if n > r.Left() {
		panic(fault{api.ErrShort})
	}
	b := append([]byte(nil), r.b[r.at:r.at+n]...)
	r.at += n
	return b
}

func (r *Reader) text(most int) string {
	n := r.next()
	// Each number is above a bound below 0, which would wrap as a uint64.
	if most < 0 || n > uint64(most) {
		panic(fault{api.ErrRange})
	}
	return string(r.raw(int(n)))
}

package log

import (
	"tickertape/api"
	"tickertape/man"
	"tickertape/rec"
	"tickertape/seg"
)

// fault is what gives up a rotation, or an opening; who began it catches it.
type fault struct {
	why api.Errno
}

// must gives up at an error.
func must(e api.Errno) {
	if e != api.OK {
		panic(fault{e})
	}
}

// caught is why it was given up; what is not the package's own is given on.
func caught(given any) api.Errno {
	f, own := given.(fault)
	if !own {
		panic(given)
	}
	return f.why
}

// rotate begins a new segment with r, of which b is the bytes.
func (l *Log) rotate(r rec.Record, b []byte) (e api.Errno) {
	created := ""
	defer func() {
		if given := recover(); given != nil {
			e = caught(given)
			if created != "" {
				// What it answers counts for nothing: Open, too, deletes what the manifest has not.
				l.disk.Delete(created)
			}
		}
	}()
	must(l.Sync())
	num := l.next()
	name := seg.Name(num)
	must(l.disk.Create(name))
	created = name
	head, e := seg.Header(seg.Head{Num: num, First: r.Seq})
	must(e)
	file := append(head, b...)
	must(l.disk.Append(name, file))
	must(l.disk.Sync(name))
	must(man.Save(l.disk, append(numbers(l.segs), num)))
	l.segs = append(l.segs, Seg{Num: num, Size: len(file), First: r.Seq, Last: r.Seq, From: r.Time, To: r.Time})
	return api.OK
}

// next is the number of the segment that begins.
func (l *Log) next() int {
	s, _ := l.active()
	if s.Num == seg.Most || len(l.segs) >= mostSegments {
		must(api.ErrFull)
	}
	return s.Num + 1
}

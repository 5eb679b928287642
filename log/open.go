package log

import (
	"slices"

	"tickertape/api"
	"tickertape/disk"
	"tickertape/man"
	"tickertape/seg"
)

// Open is the log that the disk has: mended, if it is the first time behind a fall.
func Open(d *disk.Disk, c Conf) (l *Log, e api.Errno) {
	if !MayConf(c) {
		return nil, api.ErrRange
	}
	defer func() {
		if given := recover(); given != nil {
			l, e = nil, caught(given)
		}
	}()
	l = &Log{disk: d, conf: c}
	nums, e := man.Load(d)
	must(e)
	l.tidy(nums)
	for i, num := range nums {
		l.load(num, i == len(nums)-1)
	}
	return l, api.OK
}

// tidy deletes what a rotation or a Retain may have left: a manifest that is no one's yet, segments that are no more.
func (l *Log) tidy(nums []int) {
	files, e := l.disk.List()
	must(e)
	if slices.Contains(files, man.Fresh) {
		must(l.disk.Delete(man.Fresh))
	}
	for _, name := range files {
		num, ok := seg.Number(name)
		if ok && !slices.Contains(nums, num) {
			must(l.disk.Delete(name))
		}
	}
}

// load puts the segment of that number behind those that are there; the last one may be torn.
func (l *Log) load(num int, last bool) {
	name := seg.Name(num)
	b, e := l.disk.Read(name)
	must(e)
	scan, e := seg.Read(b)
	must(e)
	if scan.Num != num || len(scan.Parts) == 0 || !last && scan.Good != len(b) {
		must(api.ErrForm)
	}
	s := summary(scan)
	if ahead, ok := l.active(); ok && (s.First != ahead.Last+1 || s.From < ahead.To) {
		must(api.ErrForm)
	}
	if scan.Good < len(b) {
		must(l.disk.Truncate(name, scan.Good))
		must(l.disk.Sync(name))
	}
	l.segs = append(l.segs, s)
}

// summary is the Seg of a segment that has records.
func summary(scan seg.Scan) Seg {
	first, last := scan.Parts[0], scan.Parts[len(scan.Parts)-1]
	return Seg{Num: scan.Num, Size: scan.Good, First: scan.First, Last: last.Seq, From: first.Time, To: last.Time}
}

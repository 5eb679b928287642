package disk

import "slices"

// Arm lets the after-th operation from now on crash.
func (d *Disk) Arm(after int, l ...Outcome) bool {
	if after < 1 {
		return false
	}
	d.fuse = after
	d.falls = nil
	for _, o := range l {
		d.falls = append(d.falls, Outcome{Keep: o.Keep, Junk: slices.Clone(o.Junk)})
	}
	return true
}

// Crash lets the disk fall now.
func (d *Disk) Crash(l ...Outcome) bool {
	if d.down {
		return false
	}
	d.fall(l)
	return true
}

// Reboot brings the disk up again.
func (d *Disk) Reboot() bool {
	if !d.down {
		return false
	}
	d.down = false
	return true
}

// Up tells whether it is up.
func (d *Disk) Up() bool {
	return !d.down
}

// fall leaves of each file what l tells; who is not told of loses all that was not sure.
func (d *Disk) fall(l []Outcome) {
	for _, name := range d.names() {
		f := d.files[name]
		if f.sure == len(f.bytes) {
			continue
		}
		o := Outcome{}
		if len(l) > 0 {
			o, l = l[0], l[1:]
		}
		f.fall(o)
	}
	d.down = true
	d.fuse, d.falls = 0, nil
}

func (f *file) fall(o Outcome) {
	loose := len(f.bytes) - f.sure
	keep := min(max(o.Keep, 0), loose)
	junk := o.Junk[:min(len(o.Junk), loose-keep)]
	f.bytes = append(f.bytes[:f.sure+keep], junk...)
	f.sure = len(f.bytes)
}

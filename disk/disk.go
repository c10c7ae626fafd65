// Package disk is layer 1: the sectors of a disk whose power may go. See shared/doc/01-disk.md.
package disk

import (
	"slices"
	"strings"

	"archivist/api"
)

const (
	maxSectors = 2000
	anyNumber  = -1 // Left of a disk whose power isn't to go
)

// New answers a disk of n sectors of noughts.
func New(n int) (api.Disk, api.Errno) {
	if n < 1 || n > maxSectors {
		return api.Disk{}, api.ErrArg
	}
	return api.Disk{Sure: slices.Repeat([]string{padded("")}, n), Left: anyNumber}, api.OK
}

// Read answers a sector as it is to be.
func Read(d api.Disk, at int) (string, api.Errno) {
	if !has(d, at) {
		return "", api.ErrArg
	}
	if d.Dead {
		return "", api.ErrDown
	}
	// The last one counts, as it does for Flush, should a raw disk have two for one sector.
	for _, w := range slices.Backward(d.Wet) {
		if w.At == at {
			return w.Data, api.OK
		}
	}
	return d.Sure[at], api.OK
}

// Write says what a sector is to be. It isn't sure before a Flush.
func Write(d api.Disk, at int, data string) (api.Disk, api.Errno) {
	if !has(d, at) || len(data) > api.Sector {
		return d, api.ErrArg
	}
	d, done := deed(d)
	if !done {
		return d, api.ErrDown
	}
	d.Wet = with(d.Wet, api.Wet{At: at, Data: padded(data)})
	return d, api.OK
}

// Flush makes all sectors surely what they are to be.
func Flush(d api.Disk) (api.Disk, api.Errno) {
	d, done := deed(d)
	if !done {
		return d, api.ErrDown
	}
	return settled(d, ^uint64(0)), api.OK
}

// Arm sets how many deeds a disk does before its power goes.
func Arm(d api.Disk, n int) api.Disk {
	d.Left = max(n, anyNumber)
	return d
}

// Start gives a disk its power back. The bits of stay choose what is kept of what wasn't sure.
func Start(d api.Disk, stay uint64) api.Disk {
	d = settled(d, stay)
	d.Dead = false
	d.Left = anyNumber
	return d
}

func has(d api.Disk, at int) bool { return 0 <= at && at < len(d.Sure) }

func padded(data string) string {
	return data + strings.Repeat("\x00", api.Sector-len(data))
}

// deed answers the disk behind one more deed, and whether that deed is done.
func deed(d api.Disk) (api.Disk, bool) {
	if d.Dead || d.Left == 0 {
		d.Dead = true
		return d, false
	}
	if d.Left > 0 {
		d.Left--
	}
	return d, true
}

// with answers a new list, since the old one may belong to another disk.
func with(wet []api.Wet, w api.Wet) []api.Wet {
	list := make([]api.Wet, 0, len(wet)+1)
	placed := false
	for _, other := range wet {
		if !placed && other.At > w.At {
			list = append(list, w)
			placed = true
		}
		if other.At != w.At {
			list = append(list, other)
		}
	}
	if !placed {
		list = append(list, w)
	}
	return list
}

// settled makes those of Wet sure whose bits of stay are set, and forgets the others.
func settled(d api.Disk, stay uint64) api.Disk {
	if len(d.Wet) > 0 {
		// Other disks may share these sectors.
		d.Sure = slices.Clone(d.Sure)
	}
	for i, w := range d.Wet {
		// A raw disk may tell of sectors that it hasn't.
		if stay>>(i%64)&1 == 1 && has(d, w.At) {
			d.Sure[w.At] = w.Data
		}
	}
	d.Wet = nil
	return d
}

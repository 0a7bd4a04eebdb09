package journal

import (
	"boarder/api"
	"boarder/disk"
)

// Change is one of a disk.
type Change struct {
	Kind     int
	Name, To string
	B        []byte
}

// The kinds of changes.
const (
	appends = iota + 1
	syncs
	renames
	removes
	syncsDir
)

// performers answers what performs the changes of each kind.
func performers() map[int]func(Change, disk.Disk) (disk.Disk, api.Errno) {
	return map[int]func(Change, disk.Disk) (disk.Disk, api.Errno){
		appends:  Change.appended,
		syncs:    Change.synced,
		renames:  Change.renamed,
		removes:  Change.removed,
		syncsDir: Change.dirSynced,
	}
}

func (c Change) appended(d disk.Disk) (disk.Disk, api.Errno) {
	return disk.Append(d, c.Name, c.B)
}

func (c Change) synced(d disk.Disk) (disk.Disk, api.Errno) {
	return disk.Sync(d, c.Name)
}

func (c Change) renamed(d disk.Disk) (disk.Disk, api.Errno) {
	return disk.Rename(d, c.Name, c.To)
}

func (c Change) removed(d disk.Disk) (disk.Disk, api.Errno) {
	return disk.Remove(d, c.Name)
}

func (c Change) dirSynced(d disk.Disk) (disk.Disk, api.Errno) {
	return disk.SyncDir(d), api.OK
}

// performed answers the disk after a change: with an error, as it was.
func (c Change) performed(d disk.Disk) (disk.Disk, api.Errno) {
	perform, known := performers()[c.Kind]
	if !known {
		return d, api.ErrArg
	}
	return perform(c, d)
}

// Do does changes, one after the other: no more than the fuel, and none from the first one on that has an error.
func Do(d disk.Disk, l []Change, fuel int) (disk.Disk, int) {
	d = valid(d)
	for i, c := range l {
		if i >= fuel {
			return d, i
		}
		next, e := c.performed(d)
		if e != api.OK {
			return d, i
		}
		d = next
	}
	return d, len(l)
}

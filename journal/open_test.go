package journal

import (
	"slices"
	"testing"

	"boarder/api"
	"boarder/disk"
)

// handOpened answers what P10.3 says of a disk without an error: its names now but k, with the intact part of the journal and all of it safe.
func handOpened(d disk.Disk, intact []byte) disk.Disk {
	var o disk.Disk
	for _, e := range d.Now {
		if e.Name == "k" {
			continue
		}
		f := d.Files[e.File]
		if e.Name == "j" {
			f = file(intact, true)
		}
		o.Now = append(o.Now, disk.Entry{Name: e.Name, File: len(o.Files)})
		o.Files = append(o.Files, f)
	}
	o.Kept = o.Now
	return o
}

// opens: does Open answer just this?
func opens(t *testing.T, d, want disk.Disk, e api.Errno) {
	t.Helper()
	if o, f := Open(d); !same(o, want) || f != e || !disk.Right(o) {
		t.Errorf("Open of %s: %s, error %d, not %s, error %d", tell(d), tell(o), f, tell(want), e)
	}
}

// lasting: is what Read answers of a disk there after any crash?
func lasting(t *testing.T, d disk.Disk) {
	t.Helper()
	l, n, e := Read(d)
	for _, keep := range [][]int{nil, {0, 1, 0, 1}, slices.Repeat([]int{1}, 20), slices.Repeat([]int{api.MaxBytes}, 20)} {
		for _, dir := range []bool{false, true} {
			reads(t, disk.Crash(d, keep, dir), l, n, e)
		}
	}
}

func TestOpenWords(t *testing.T) { // P10.3: written out by hand
	whole := unhex(frameA)
	torn := unhex(frameA + "000901")
	lasts := disk.Disk{Files: []disk.File{file(whole, true)}, Now: names("j0"), Kept: names("j0")}
	opens(t, disk.Disk{}, disk.Disk{}, api.OK)
	opens(t, disk.Disk{Files: []disk.File{file(whole, false)}, Now: names("j0")}, lasts, api.OK)
	opens(t, disk.Disk{Files: []disk.File{file(torn, false)}, Now: names("j0")}, lasts, api.OK)
	opens(t, disk.Disk{Files: []disk.File{file(torn, true)}, Now: names("j0"), Kept: names("j0")}, lasts, api.OK)
	opens(t, disk.Disk{Files: []disk.File{file(torn[21:], true)}, Now: names("j0")}, disk.Disk{Files: []disk.File{{}}, Now: names("j0"), Kept: names("j0")}, api.OK)
	opens(t, disk.Disk{Files: []disk.File{file(whole, false), text("draft"), text("lost")}, Now: names("j0 k1"), Kept: names("i2 k1")}, lasts, api.OK)
	opens(t, disk.Disk{Files: []disk.File{text("draft")}, Now: names("k0"), Kept: names("k0")}, disk.Disk{}, api.OK)
	opens(t, disk.Disk{Files: []disk.File{text("draft"), file(whole, true)}, Now: names("k0"), Kept: names("j1")}, disk.Disk{}, api.OK)
	opens(t, disk.Disk{Files: []disk.File{text("other")}, Now: names("a0")}, disk.Disk{Files: []disk.File{text("other")}, Now: names("a0"), Kept: names("a0")}, api.OK)
	opens(t, disk.Disk{Files: []disk.File{file(unhex(frameA+"07d100000000"), true)}, Now: names("j0"), Kept: names("j0")}, disk.Disk{}, api.ErrForm)
	opens(t, disk.Disk{Files: []disk.File{file(unhex(frameA+"000000000000"), true), text("draft")}, Now: names("j0 k1"), Kept: names("j0")}, disk.Disk{}, api.ErrForm)
}

func TestOpenMissing(t *testing.T) { // P10.3
	for _, d := range bare() {
		opens(t, d, handOpened(d, nil), api.OK)
		o, _ := Open(d)
		lasting(t, o)
	}
}

func TestOpenWhole(t *testing.T) { // P10.3: of an empty one, too
	for n := range len(someLease) + 1 {
		b := frames(someLease[:n]...)
		for _, d := range places(b) {
			opens(t, d, handOpened(d, b), api.OK)
			o, _ := Open(d)
			reads(t, o, someLease[:n], len(b), api.OK)
			lasting(t, o)
			opens(t, o, o, api.OK)
		}
	}
}

func TestOpenWrong(t *testing.T) { // P10.3: torn and corrupt ones, and frames that hold no lease
	for _, w := range wrongJournals() {
		if w.e != api.ErrMore {
			for _, i := range []int{0, 7, 16} {
				opens(t, places(w.b)[i], disk.Disk{}, w.e)
			}
			continue
		}
		for i, d := range places(w.b) {
			opens(t, d, handOpened(d, w.b[:w.n]), api.OK)
			if i%5 == 0 {
				o, _ := Open(d)
				reads(t, o, w.l, w.n, api.OK)
				lasting(t, o)
			}
		}
	}
}

func TestOpenWrongDisk(t *testing.T) { // P10.3, P0
	for _, d := range wrongDisks() {
		opens(t, d, disk.Disk{}, api.OK)
	}
}

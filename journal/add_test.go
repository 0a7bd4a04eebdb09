package journal

import (
	"bytes"
	"fmt"
	"maps"
	"math"
	"slices"
	"strings"
	"testing"

	"boarder/api"
	"boarder/disk"
)

// alike: are two lists of changes the same? Nil and empty bytes are.
func alike(l, m []Change) bool {
	return slices.EqualFunc(l, m, func(c, d Change) bool {
		return c.Kind == d.Kind && c.Name == d.Name && c.To == d.To && bytes.Equal(c.B, d.B)
	})
}

// tellChanges answers changes in a few words.
func tellChanges(l []Change) string {
	s := fmt.Sprint(len(l), " changes:")
	for _, c := range l {
		s += fmt.Sprintf(" %d of %q to %q, %d bytes %.40x;", c.Kind, c.Name, c.To, len(c.B), c.B)
	}
	return s
}

// adds: does Add answer just these changes?
func adds(t *testing.T, d disk.Disk, l api.Lease, want []Change) {
	t.Helper()
	if got, e := Add(d, l); !alike(got, want) || e != api.OK {
		t.Errorf("Add to %s: %s, error %d, not %s", tell(d), tellChanges(got), e, tellChanges(want))
	}
}

// refuses: does Add answer just this error?
func refuses(t *testing.T, d disk.Disk, l api.Lease, want api.Errno) {
	t.Helper()
	if got, e := Add(d, l); len(got) != 0 || e != want {
		t.Errorf("Add of %v to %s: %d changes, error %d, not %d", l.Addr, tell(d), len(got), e, want)
	}
}

// handChanges answers the changes that store a lease, with or without the directory's.
func handChanges(l api.Lease, dir bool) []Change {
	c := []Change{{Kind: 1, Name: "j", B: frames(l)}, {Kind: 2, Name: "j"}}
	if dir {
		c = append(c, Change{Kind: 5})
	}
	return c
}

// keptToo: have both directories the journal, and for one file?
func keptToo(d disk.Disk) bool {
	files := map[int]int{}
	for _, e := range append(slices.Clone(d.Now), d.Kept...) {
		if e.Name == "j" {
			files[e.File]++
		}
	}
	return len(files) == 1 && slices.Contains(slices.Collect(maps.Values(files)), 2)
}

// wrongLeases answers leases that are not valid.
func wrongLeases() []api.Lease {
	var all []api.Lease
	for _, f := range []func(*api.Lease){
		func(l *api.Lease) { *l = api.Lease{} },
		func(l *api.Lease) { l.Addr = -1 },
		func(l *api.Lease) { l.Addr = api.MaxAddr + 1 },
		func(l *api.Lease) { l.Addr = math.MinInt },
		func(l *api.Lease) { l.State = 0 },
		func(l *api.Lease) { l.State = 4 },
		func(l *api.Lease) { l.State = math.MaxInt },
		func(l *api.Lease) { l.Expiry = -1 },
		func(l *api.Lease) { l.Expiry = api.MaxTime + 1 },
		func(l *api.Lease) { l.Key = "" },
		func(l *api.Lease) { l.Key = "i1" },
		func(l *api.Lease) { l.Key = "k01" },
		func(l *api.Lease) { l.Key = "h" + strings.Repeat("x", 18) },
		func(l *api.Lease) { l.Key = "i" + strings.Repeat("x", 256) },
		func(l *api.Lease) { l.Key = "i" + strings.Repeat("x", 100000) },
	} {
		l := leaseA
		f(&l)
		all = append(all, l)
	}
	return all
}

func TestExample(t *testing.T) { // the chapter's example
	l, e := Add(disk.Disk{}, leaseA)
	if e != api.OK || len(l) != 3 {
		t.Fatalf("Add on an empty disk: %d changes, error %d", len(l), e)
	}
	d, n := Do(disk.Disk{}, l, 3)
	if l, e = Add(d, leaseB); n != 3 || e != api.OK || len(l) != 2 {
		t.Errorf("one more lease: %d, %d changes, error %d", n, len(l), e)
	}
}

func TestAddWords(t *testing.T) { // P10.4: written out by hand
	b := unhex(frameA)
	two := []Change{{Kind: 1, Name: "j", B: b}, {Kind: 2, Name: "j"}}
	three := append(two[:2:2], Change{Kind: 5})
	j, old := file(b, true), file(frames(leaseC), true)
	adds(t, disk.Disk{}, leaseA, three)
	adds(t, disk.Disk{Files: []disk.File{j}, Now: names("j0"), Kept: names("j0")}, leaseA, two)
	adds(t, disk.Disk{Files: []disk.File{{}}, Now: names("j0"), Kept: names("j0")}, leaseA, two)
	adds(t, disk.Disk{Files: []disk.File{j}, Now: names("j0")}, leaseA, three)
	adds(t, disk.Disk{Files: []disk.File{j}, Kept: names("j0")}, leaseA, three)
	adds(t, disk.Disk{Files: []disk.File{j}, Now: names("j0"), Kept: names("k0")}, leaseA, three)
	adds(t, disk.Disk{Files: []disk.File{j}, Now: names("k0"), Kept: names("j0")}, leaseA, three)
	adds(t, disk.Disk{Files: []disk.File{j, old}, Now: names("j0"), Kept: names("j1")}, leaseA, three)
	adds(t, disk.Disk{Files: []disk.File{j, old}, Now: names("j0"), Kept: names("j1 k0")}, leaseA, three)
	adds(t, disk.Disk{Files: []disk.File{old, j}, Now: names("a0 j1"), Kept: names("j1")}, leaseA, two)
	adds(t, disk.Disk{Files: []disk.File{old, j}, Now: names("a0 j1"), Kept: names("a1 j0")}, leaseA, three)
}

func TestAdd(t *testing.T) { // P10.4
	for _, l := range someLease {
		for _, had := range [][]byte{nil, frames(leaseB), frames(someLease...)} {
			for _, d := range places(had) {
				adds(t, d, l, handChanges(l, !keptToo(d)))
				adds(t, d, l, handChanges(l, !keptToo(d)))
				o, _ := Open(d)
				adds(t, o, l, handChanges(l, false))
			}
		}
		for _, d := range bare() {
			adds(t, d, l, handChanges(l, true))
		}
	}
}

func TestAddWrongLease(t *testing.T) { // P10.4: ahead of the journal's own errors
	torn, corrupt := []byte{0, 9, 1}, []byte{255, 255, 0, 0, 0, 0}
	for _, l := range wrongLeases() {
		for _, b := range [][]byte{nil, frames(leaseB), torn, corrupt, handFrame(nil)} {
			for _, d := range places(b) {
				refuses(t, d, l, api.ErrArg)
			}
		}
		for _, d := range append(bare(), wrongDisks()...) {
			refuses(t, d, l, api.ErrArg)
		}
	}
}

func TestAddWrongJournal(t *testing.T) { // P10.4: ErrState of a torn one, and else the error of Read
	for _, w := range wrongJournals() {
		want := w.e
		if want == api.ErrMore {
			want = api.ErrState
		}
		for _, i := range []int{0, 3, 12} {
			refuses(t, places(w.b)[i], leaseA, want)
		}
	}
}

func TestAddWrongDisk(t *testing.T) { // P10.4, P0: as on the zero disk
	for _, d := range wrongDisks() {
		adds(t, d, leaseB, handChanges(leaseB, true))
	}
}

func TestAddWithoutRoom(t *testing.T) { // P10.4, P10.1: Add tells the changes, and Do can't perform the first of them
	b := bytes.Repeat(frames(longest), 72) // 19728 bytes
	l := slices.Repeat([]api.Lease{longest}, 72)
	for len(b)+21 <= api.MaxBytes {
		b, l = append(b, frames(leaseA)...), append(l, leaseA)
	}
	for _, d := range places(b) {
		changes, e := Add(d, leaseA)
		if e != api.OK {
			t.Fatalf("Add to a full journal: error %d", e)
		}
		does(t, d, changes, math.MaxInt, d, 0)
		reads(t, d, l, len(b), api.OK)
	}
	full := disk.Disk{Files: many(20), Now: numbered(20), Kept: numbered(20)}
	for i := range full.Now {
		full.Now[i].File, full.Kept[i].File = i, i
	}
	adds(t, full, leaseA, handChanges(leaseA, true))
	does(t, full, handChanges(leaseA, true), 3, full, 0)
	fits := places(b[:len(b)-21])[0]
	want := places(b)[0]
	does(t, fits, handChanges(leaseA, false), 2, want, 2)
}

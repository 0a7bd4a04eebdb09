package clean

import (
	"bytes"
	"fmt"
	"math/rand"
	"slices"
	"testing"

	"boarder/api"
	"boarder/disk"
	"boarder/journal"
)

// handChanges answers the changes that put these frames in the journal's place, with or without an old draft.
func handChanges(old bool, b []byte) []journal.Change {
	var l []journal.Change
	if old {
		l = append(l, journal.Change{Kind: 4, Name: "k"})
	}
	return append(l, journal.Change{Kind: 1, Name: "k", B: b}, journal.Change{Kind: 2, Name: "k"}, journal.Change{Kind: 3, Name: "k", To: "j"}, journal.Change{Kind: 5})
}

// alike: are two lists of changes the same? Nil and empty bytes are.
func alike(l, m []journal.Change) bool {
	return slices.EqualFunc(l, m, func(c, d journal.Change) bool {
		return c.Kind == d.Kind && c.Name == d.Name && c.To == d.To && bytes.Equal(c.B, d.B)
	})
}

// tellChanges answers changes in a few words.
func tellChanges(l []journal.Change) string {
	s := fmt.Sprint(len(l), " changes:")
	for _, c := range l {
		s += fmt.Sprintf(" %d of %q to %q, %d bytes %.40x;", c.Kind, c.Name, c.To, len(c.B), c.B)
	}
	return s
}

// changes: does Changes answer just this?
func changes(t *testing.T, d disk.Disk, l []api.Lease, want []journal.Change) {
	t.Helper()
	if got, e := Changes(d, l); !alike(got, want) || e != api.OK {
		t.Errorf("%d leases, %s: %s, error %d, not %s", len(l), tell(d), tellChanges(got), e, tellChanges(want))
	}
}

// refuses: does Changes answer just this error?
func refuses(t *testing.T, d disk.Disk, l []api.Lease, want api.Errno) {
	t.Helper()
	if got, e := Changes(d, l); len(got) != 0 || e != want {
		t.Errorf("%d leases, %s: %d changes, error %d, not %d", len(l), tell(d), len(got), e, want)
	}
}

// anyDisks answers valid disks of all sorts.
func anyDisks() []disk.Disk {
	b := handFrames(leaseA, laterA)
	ds := slices.Concat(settled(b), settled(nil), without(), unsettled(b), lost(), []disk.Disk{fullDisk(b)})
	for _, end := range slices.Concat(tornEnds(), corruptEnds()) {
		faulty := settled(slices.Concat(b, end))
		ds = append(ds, faulty[0], faulty[1], faulty[4])
	}
	return ds
}

// full answers leases whose frames have just so many bytes together: nearly all frames have the least number.
func full(size, least int) []api.Lease {
	var l []api.Lease
	for size >= least+274 {
		l, size = append(l, sized(least)), size-least
	}
	for size > 274 {
		l, size = append(l, sized(size/2)), size-size/2
	}
	return append(l, sized(size))
}

func TestChangesWords(t *testing.T) { // P11.1: written out by hand
	b := unhex(frameA)
	four := []journal.Change{{Kind: 1, Name: "k", B: b}, {Kind: 2, Name: "k"}, {Kind: 3, Name: "k", To: "j"}, {Kind: 5}}
	five := append([]journal.Change{{Kind: 4, Name: "k"}}, four...)
	l := []api.Lease{leaseA}
	j, k := file(handFrames(leaseB), true), text("draft")
	changes(t, disk.Disk{}, l, four)
	changes(t, disk.Disk{Files: []disk.File{j}, Now: names("j0"), Kept: names("j0")}, l, four)
	changes(t, disk.Disk{Files: []disk.File{j, k}, Now: names("j0 k1"), Kept: names("j0")}, l, five)
	changes(t, disk.Disk{Files: []disk.File{j, k}, Now: names("j0 k1"), Kept: names("j0 k1")}, l, five)
	changes(t, disk.Disk{Files: []disk.File{j, k}, Now: names("j0"), Kept: names("j0 k1")}, l, four)
	changes(t, disk.Disk{Files: []disk.File{{}}, Now: names("k0")}, l, five)
	changes(t, disk.Disk{Files: []disk.File{j}, Now: names("k0"), Kept: names("j0")}, l, five)
	changes(t, disk.Disk{Files: []disk.File{j}, Now: names("j0"), Kept: names("k0")}, l, four)
	changes(t, disk.Disk{Files: []disk.File{k, k}, Now: names("K0 kk1"), Kept: names("K0 kk1")}, l, four)
	four[0].B = nil
	changes(t, disk.Disk{}, nil, four)
	changes(t, disk.Disk{}, []api.Lease{}, four)
	four[0].B = slices.Concat(b, b)
	changes(t, disk.Disk{}, []api.Lease{leaseA, leaseA}, four)
}

func TestChanges(t *testing.T) { // P11.1, R4: of all leases, in their order, whatever the journal is
	lists := [][]api.Lease{nil, {leaseB, leaseA}, {laterA, leaseA, leaseA}, someLease, slices.Repeat(someLease, 30)}
	for _, l := range someLease {
		lists = append(lists, []api.Lease{l})
	}
	for _, l := range lists {
		for _, d := range anyDisks() {
			changes(t, d, l, handChanges(has(d, "k"), handFrames(l...)))
			changes(t, d, l, handChanges(has(d, "k"), handFrames(l...)))
		}
	}
}

func TestChangesRandom(t *testing.T) { // P11.1
	r := rand.New(rand.NewSource(113))
	ds := anyDisks()
	for range 2000 {
		l := make([]api.Lease, r.Intn(40))
		for i := range l {
			k := make([]byte, 2+r.Intn(16))
			r.Read(k)
			l[i] = api.Lease{Addr: r.Intn(1 << (r.Intn(32) + 1)), State: 1 + r.Intn(3), Expiry: r.Intn(1<<50 + 1), Key: string("hi"[r.Intn(2)]) + string(k)}
		}
		d := ds[r.Intn(len(ds))]
		changes(t, d, l, handChanges(has(d, "k"), handFrames(l...)))
	}
}

func TestChangesWrongLease(t *testing.T) { // P11.1: at any place
	for _, w := range wrongLeases() {
		for _, d := range slices.Concat(anyDisks(), wrongDisks()) {
			refuses(t, d, []api.Lease{w}, api.ErrArg)
		}
		for at := range len(someLease) + 1 {
			l := slices.Insert(slices.Clone(someLease), at, w)
			refuses(t, settled(nil)[0], l, api.ErrArg)
			refuses(t, settled(nil)[1], l, api.ErrArg)
			refuses(t, disk.Disk{}, append(l, w), api.ErrArg)
		}
	}
}

func TestChangesBothFaults(t *testing.T) { // P11.1: a lease that isn't valid goes ahead of too many bytes
	much := full(api.MaxBytes+1, 274)
	for _, w := range wrongLeases() {
		for _, d := range []disk.Disk{{}, settled(handFrames(leaseA))[0], settled(handFrames(leaseA))[1], wrongDisks()[0]} {
			refuses(t, d, slices.Concat([]api.Lease{w}, much), api.ErrArg)
			refuses(t, d, slices.Concat(much, []api.Lease{w}), api.ErrArg)
			refuses(t, d, slices.Concat(much, []api.Lease{w}, much), api.ErrArg)
			refuses(t, d, slices.Concat(much, much, []api.Lease{leaseA, w}), api.ErrArg)
		}
	}
}

func TestChangesRoom(t *testing.T) { // P11.1: as many bytes as a file has room for, and more
	ds := []disk.Disk{{}, settled(handFrames(leaseA))[0], settled(handFrames(leaseA))[1], without()[3]}
	for _, least := range []int{21, 22, 100, 274} {
		for _, d := range ds {
			for _, size := range []int{api.MaxBytes - 274, api.MaxBytes - 1, api.MaxBytes} {
				l := full(size, least)
				b := handFrames(l...)
				if len(b) != size {
					t.Fatalf("%d bytes, not %d", len(b), size)
				}
				changes(t, d, l, handChanges(has(d, "k"), b))
			}
			for _, size := range []int{api.MaxBytes + 1, api.MaxBytes + 2, api.MaxBytes + 21, api.MaxBytes + 274, 2 * api.MaxBytes, 1 << 16, 1<<16 + 50} {
				refuses(t, d, full(size, least), api.ErrFull)
			}
		}
	}
	exact := full(api.MaxBytes, 274)
	refuses(t, disk.Disk{}, slices.Repeat(exact, 300), api.ErrFull)
	for _, one := range someLease {
		for at := range len(exact) + 1 {
			refuses(t, disk.Disk{}, slices.Insert(slices.Clone(exact), at, one), api.ErrFull)
		}
	}
}

func TestChangesRoomForOneAddress(t *testing.T) { // P11.1: the bytes of all leases count, though few are the latest ones
	refuses(t, disk.Disk{}, slices.Repeat([]api.Lease{leaseA}, 953), api.ErrFull)
	changes(t, disk.Disk{}, slices.Repeat([]api.Lease{leaseA}, 952), handChanges(false, bytes.Repeat(unhex(frameA), 952)))
}

func TestChangesWrongDisk(t *testing.T) { // P11.1, P0: as on the zero disk
	for _, d := range wrongDisks() {
		for _, l := range [][]api.Lease{nil, {leaseA}, {leaseA, leaseB, leaseA}} {
			changes(t, d, l, handChanges(false, handFrames(l...)))
		}
		refuses(t, d, full(api.MaxBytes+1, 50), api.ErrFull)
	}
}

func TestChangesOfOthers(t *testing.T) { // P11.1, by chapter 10: what is on the disk when all of them are done
	l := []api.Lease{leaseC, leaseA, laterA, leaseA}
	whole := file(handFrames(l...), true)
	j, k := file(handFrames(leaseB), true), text("draft")
	a, z := text("ahead"), text("z")
	both := disk.Disk{Files: []disk.File{a, whole, z}, Now: names("a0 j1 z2"), Kept: names("a0 j1 z2")}
	for _, d := range []disk.Disk{
		{Files: []disk.File{a, z}, Now: names("a0 z1")},
		{Files: []disk.File{a, j, z}, Now: names("a0 j1 z2"), Kept: names("a0 j1 z2")},
		{Files: []disk.File{a, j, k, z}, Now: names("a0 j1 k2 z3"), Kept: names("a0 j1")},
		{Files: []disk.File{a, j, k, z}, Now: names("a0 j1 k2 z3"), Kept: names("j2 k1")},
		{Files: []disk.File{a, file(append(handFrames(leaseB), 0, 9), true), z}, Now: names("a0 j1 z2")},
		{Files: []disk.File{a, file(append(handFrames(leaseB), 255, 255, 0, 0, 0, 0), true), z}, Now: names("a0 j1 z2")},
	} {
		if !disk.Right(d) {
			t.Fatalf("not valid: %s", tell(d))
		}
		c, e := Changes(d, l)
		got, n := journal.Do(d, c, 9)
		if e != api.OK || n != len(c) || !same(got, both) {
			t.Errorf("%s: %d of %d changes, error %d, %s", tell(d), n, len(c), e, tell(got))
		}
	}
}

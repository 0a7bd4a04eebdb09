package clean

import (
	"fmt"
	"slices"
	"testing"

	"boarder/api"
	"boarder/disk"
	"boarder/journal"
)

// roomy answers a copy of a list with spare capacity that is filled.
func roomy[T any](l []T, spare T) []T {
	big := append(slices.Clone(l), slices.Repeat([]T{spare}, 40)...)
	return big[:len(l)]
}

// roomyDisk answers a copy of a disk with spare capacity everywhere.
func roomyDisk(d disk.Disk) disk.Disk {
	c := disk.Disk{Files: roomy(d.Files, disk.File{Data: []byte("spare"), Safe: 2}), Now: roomy(d.Now, disk.Entry{Name: "spare"}), Kept: roomy(d.Kept, disk.Entry{Name: "spare"})}
	for i, f := range d.Files {
		c.Files[i].Data = roomy(f.Data, 77)
	}
	return c
}

// all answers a list with what stands in its spare capacity.
func all[T any](l []T) []T {
	return l[:cap(l)]
}

// fill overwrites a list, and its spare capacity.
func fill[T any](l []T, with T) {
	for i := range all(l) {
		all(l)[i] = with
	}
}

// dump tells all of a disk, and of its spare capacity.
func dump(d disk.Disk) string {
	s := fmt.Sprint(len(d.Files), len(d.Now), len(d.Kept), all(d.Now), all(d.Kept))
	for _, f := range all(d.Files) {
		s += fmt.Sprint(len(f.Data), f.Safe, all(f.Data))
	}
	return s
}

// memoryLists answers lists of leases, each with spare capacity.
func memoryLists() [][]api.Lease {
	var ls [][]api.Lease
	for _, l := range [][]api.Lease{nil, {leaseB}, {leaseA, laterA}, {leaseA, leaseB}, {leaseB, leaseA, leaseB}, someLease, slices.Repeat(someLease, 9), wrongLeases(), full(api.MaxBytes+1, 274)} {
		ls = append(ls, roomy(l, at(3, 3)))
	}
	return ls
}

func TestMemoryOfLast(t *testing.T) { // P0, R3: the list stays as it is, and the answer shares nothing with it
	for i, l := range append(memoryLists(), everyList(4, 1, 0, 2)...) {
		before := slices.Clone(all(l))
		got := Last(l)
		if !slices.Equal(all(l), before) {
			t.Fatalf("list %d is changed", i)
		}
		fill(got, api.Lease{Key: "spoilt"})
		if !slices.Equal(all(l), before) {
			t.Fatalf("list %d is shared", i)
		}
		lasts(t, l, handLast(l))
		got = Last(l)
		fill(l, api.Lease{Key: "spoilt"})
		if want := handLast(before[:len(l)]); !slices.Equal(got, want) {
			t.Fatalf("list %d is kept: %v", i, got)
		}
	}
}

func TestMemoryOfChanges(t *testing.T) { // P0, R3
	for i, d := range append(anyDisks(), wrongDisks()...) {
		if len(d.Files) > 0 && len(d.Files[len(d.Files)-1].Data) > 500 {
			continue
		}
		d = roomyDisk(d)
		before := dump(d)
		old := disk.Right(d) && has(d, "k")
		for j, l := range memoryLists() {
			given := slices.Clone(all(l))
			got, e := Changes(d, l)
			for _, c := range got {
				fill(c.B, 99)
			}
			fill(got, journal.Change{Kind: 99})
			if dump(d) != before || !slices.Equal(all(l), given) {
				t.Fatalf("disk %d, list %d: an argument is changed, or shared", i, j)
			}
			if e == api.OK {
				changes(t, d, l, handChanges(old, handFrames(l...)))
			}
		}
		Due(d, 0)
		if dump(d) != before {
			t.Fatalf("disk %d: Due changes it", i)
		}
	}
}

func TestKeepsNothing(t *testing.T) { // P0, R3: answers stay as they are while arguments change
	l := []api.Lease{leaseA, leaseB}
	d := roomyDisk(settled(handFrames(leaseC))[1])
	got, _ := Changes(d, l)
	fill(l, laterA)
	for _, f := range d.Files {
		fill(f.Data, 99)
	}
	fill(d.Now, disk.Entry{Name: "spoilt"})
	if want := handChanges(true, handFrames(leaseA, leaseB)); !alike(got, want) {
		t.Errorf("%s, not %s", tellChanges(got), tellChanges(want))
	}
}

func TestListsApart(t *testing.T) { // P0, R3: two answers share no memory
	l := []api.Lease{leaseA, leaseB}
	d := settled(nil)[1]
	one, _ := Changes(d, l)
	two, _ := Changes(d, l)
	for _, c := range one {
		fill(c.B, 99)
	}
	fill(one, journal.Change{})
	if want := handChanges(true, handFrames(l...)); !alike(two, want) {
		t.Errorf("%s, not %s", tellChanges(two), tellChanges(want))
	}
	first, second := Last(l), Last(l)
	fill(first, api.Lease{})
	if !slices.Equal(second, l) {
		t.Errorf("%v", second)
	}
}
